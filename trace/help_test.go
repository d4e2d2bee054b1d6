package trace_test

import (
	"fmt"
	"slices"
	"testing"

	"midden/api"
	"midden/arena"
	"midden/marks"
	"midden/trace"
)

const (
	least = -1 << 63
	most  = 1<<63 - 1
)

// odd are numbers at which nothing stands in any arena here.
var odd = []int{least, least + 1, -1 << 32, -193, -2, -1, 1 << 18, 1 << 32, 1<<32 + 1, 1 << 40, 1<<62 + 1, most - 1, most}

// all are the spaces, in the array's order.
var all = []int{api.SpaceEden, api.SpaceA, api.SpaceB, api.SpaceTenured}

func small() api.Config {
	return api.Config{Eden: 64, Survivor: 64, Tenured: 100, Large: 40, Floor: 30, Num: 2, Den: 1, Target: 50, MaxAge: 3, Threads: 1, Slots: 16, Handles: 4, Workers: 1}
}

// sized is small with other spaces.
func sized(eden, survivor, tenured int) api.Config {
	c := small()
	c.Eden, c.Survivor, c.Tenured = eden, survivor, tenured
	return c
}

func made(t *testing.T, c api.Config) *arena.Arena {
	t.Helper()
	a, e := arena.New(c)
	if e != api.OK {
		t.Fatalf("New(%+v): error %d", c, e)
	}
	return a
}

func put(t *testing.T, a *arena.Arena, space int, h api.Head) int {
	t.Helper()
	at, ok := a.Put(space, h)
	if !ok {
		t.Fatalf("Put(%d, %+v) is refused", space, h)
	}
	return at
}

// lay lays an object with these pointer fields, which may be set before there is what they hold.
func lay(t *testing.T, a *arena.Arena, space, kind int, fields ...int) int {
	t.Helper()
	at := put(t, a, space, api.Head{Serial: 1, Kind: kind, Ptrs: len(fields)})
	for i, to := range fields {
		point(t, a, at, i, to)
	}
	return at
}

func point(t *testing.T, a *arena.Arena, at, i, to int) {
	t.Helper()
	if !a.SetPtr(at, i, to) {
		t.Fatalf("SetPtr(%d, %d, %d) is refused", at, i, to)
	}
}

// memory: the chapter's.
func memory(t *testing.T) *arena.Arena {
	t.Helper()
	a := made(t, small())
	lay(t, a, api.SpaceEden, api.Plain, 5, 0)
	lay(t, a, api.SpaceEden, api.Weak, 9, 13)
	put(t, a, api.SpaceEden, api.Head{Serial: 1, Kind: api.Plain, Raws: 2})
	lay(t, a, api.SpaceEden, api.Ephemeron, 1, 9, 18)
	want(t, "Put", lay(t, a, api.SpaceEden, api.Plain), 18)
	return a
}

// chain lays so many objects in eden, each of which holds the next one, and the first.
func chain(t *testing.T, n int) *arena.Arena {
	t.Helper()
	a := made(t, sized(max(64, 4*n), 64, 64))
	for i := range n {
		next := 1 + 4*(i+1)
		if i == n-1 {
			next = 0
		}
		lay(t, a, api.SpaceEden, api.Plain, next, 1)
	}
	return a
}

func words(a *arena.Arena) int {
	_, behind := a.Bounds(api.SpaceTenured)
	return behind
}

// fresh tells a map over the arena's array with these words marked.
func fresh(t *testing.T, a *arena.Arena, ats ...int) *marks.Map {
	t.Helper()
	m := mapOf(t, words(a))
	for _, at := range ats {
		m.Set(at, 1)
	}
	return m
}

func mapOf(t *testing.T, words int) *marks.Map {
	t.Helper()
	m, e := marks.New(words)
	if e != api.OK {
		t.Fatalf("marks.New(%d): error %d", words, e)
	}
	return m
}

func want(t *testing.T, what string, got, want any) {
	t.Helper()
	if g, w := fmt.Sprint(got), fmt.Sprint(want); g != w {
		t.Errorf("%s: %s, want %s", what, g, w)
	}
}

func mark(t *testing.T, promise string, a *arena.Arena, m *marks.Map, from []int, workers, n int) {
	t.Helper()
	if got, e := trace.Mark(a, m, from, workers); got != n || e != api.OK {
		t.Errorf("%s: Mark from %v by %d: %d, error %d, want %d", promise, from, workers, got, e, n)
	}
}

// counted, sought: what a call answers, as one thing.
func counted(a *arena.Arena, from []int, workers, budget int) [3]int {
	objects, words, e := trace.Count(a, from, workers, budget)
	return [3]int{objects, words, int(e)}
}

func sought(a *arena.Arena, from []int, workers int, want func(at int, h api.Head) bool) [3]int {
	at, ok, e := trace.Seek(a, from, workers, want)
	if ok {
		return [3]int{at, 1, int(e)}
	}
	return [3]int{at, 0, int(e)}
}

// marked tells all marked words.
func marked(m *marks.Map) []int {
	var l []int
	for at := m.Next(0); at >= 0; at = m.Next(at + 1) {
		l = append(l, at)
	}
	return l
}

// wordsOf tells all words of these objects, rising.
func wordsOf(a *arena.Arena, ats ...int) []int {
	var l []int
	for _, at := range ats {
		for i := range size(a, at) {
			l = append(l, at+i)
		}
	}
	slices.Sort(l)
	return l
}

func size(a *arena.Arena, at int) int {
	h, _ := a.Head(at)
	return 2 + h.Ptrs + h.Raws
}

// image: all words of an arena, its tops and its from space.
func image(a *arena.Arena) []uint64 {
	l := []uint64{uint64(a.From())}
	for _, space := range all {
		l = append(l, uint64(a.Top(space)))
	}
	for at := range words(a) {
		l = append(l, a.Word(at))
	}
	return l
}

// model tells what is reached, by the chapter's words, from the list without going through one of past; rising.
func model(a *arena.Arena, from []int, past func(at int) bool) []int {
	got := map[int]bool{}
	for open := slices.Clone(from); len(open) > 0; {
		at := open[0]
		open = open[1:]
		if at == 0 || got[at] || past(at) {
			continue
		}
		got[at] = true
		h, _ := a.Head(at)
		for i := range h.Ptrs {
			if h.Kind == api.Weak && i == 0 || h.Kind == api.Ephemeron && i < 2 {
				continue
			}
			to, _ := a.Ptr(at, i)
			open = append(open, to)
		}
	}
	var l []int
	for at := range got {
		l = append(l, at)
	}
	slices.Sort(l)
	return l
}

func none(int) bool { return false }

func wordsIn(a *arena.Arena, ats []int) int {
	n := 0
	for _, at := range ats {
		n += size(a, at)
	}
	return n
}

// dice: numbers that look like chance and are the same at every run.
type dice uint64

func (d *dice) word() uint64 {
	*d += 0x9e3779b97f4a7c15
	x := uint64(*d)
	x = (x ^ x>>30) * 0xbf58476d1ce4e5b9
	x = (x ^ x>>27) * 0x94d049bb133111eb
	return x ^ x>>31
}

func (d *dice) below(n int) int { return int(d.word() % uint64(n)) }

func (d *dice) head() api.Head {
	kind := []int{api.Plain, api.Weak, api.Ephemeron, api.Final}[d.below(4)]
	least := map[int]int{api.Weak: 1, api.Ephemeron: 2}[kind]
	return api.Head{Serial: d.word() >> d.below(64), Kind: kind, Ptrs: least + d.below(4), Raws: d.below(3), Age: d.below(16), Site: d.below(256), Held: d.below(2) == 0}
}

// memory lays objects and fillers in all spaces, and points them at one another: a field in so many holds something. All objects are told.
func (d *dice) memory(t *testing.T, c api.Config, seldom int) (*arena.Arena, []int) {
	t.Helper()
	a := made(t, c)
	var ats []int
	for _, space := range all {
		for a.Free(space) >= 10 && d.below(60) > 0 {
			if d.below(8) == 0 {
				a.Fill(space, 1+d.below(3))
				continue
			}
			ats = append(ats, put(t, a, space, d.head()))
		}
	}
	for _, at := range ats {
		h, _ := a.Head(at)
		for i := range h.Ptrs {
			if d.below(seldom) == 0 {
				point(t, a, at, i, ats[d.below(len(ats))])
			}
		}
		for i := range h.Raws {
			a.SetRaw(at, i, d.word()>>d.below(64))
		}
	}
	if d.below(2) == 0 {
		a.Swap()
	}
	return a, ats
}

// some tells a list of these and null, some of them twice.
func (d *dice) some(ats []int, n int) []int {
	var l []int
	for range d.below(n + 1) {
		if len(ats) == 0 || d.below(6) == 0 {
			l = append(l, 0)
			continue
		}
		l = append(l, ats[d.below(len(ats))])
	}
	return l
}
