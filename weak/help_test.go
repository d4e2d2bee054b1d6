package weak_test

import (
	"fmt"
	"slices"
	"testing"

	"midden/api"
	"midden/arena"
	"midden/marks"
	"midden/weak"
)

const (
	least = -1 << 63
	most  = 1<<63 - 1
)

// odd are numbers at which nothing stands in any arena here.
var odd = []int{least, least + 1, -1 << 32, -193, -2, -1, 1 << 18, 1 << 32, 1<<32 + 1, 1 << 40, 1<<62 + 1, most - 1, most}

// all are the spaces, in the array's order.
var all = []int{api.SpaceEden, api.SpaceA, api.SpaceB, api.SpaceTenured}

// sized tells a configuration with these spaces.
func sized(eden, survivor, tenured int) api.Config {
	return api.Config{Eden: eden, Survivor: survivor, Tenured: tenured, Large: 40, Floor: 30, Num: 2, Den: 1, Target: 50, MaxAge: 3, Threads: 1, Slots: 16, Handles: 4, Workers: 1}
}

func small() api.Config { return sized(64, 64, 100) }

// memory: an arena, marks over it, and its registry.
type memory struct {
	a *arena.Arena
	m *marks.Map
	r *weak.Registry
}

func made(t *testing.T, c api.Config) *memory {
	t.Helper()
	a, e := arena.New(c)
	if e != api.OK {
		t.Fatalf("New(%+v): error %d", c, e)
	}
	x := &memory{a: a, m: mapOf(t, wordsIn(a)), r: weak.New(a)}
	if x.r == nil {
		t.Fatal("P10.1: New answers nil")
	}
	return x
}

func mapOf(t *testing.T, words int) *marks.Map {
	t.Helper()
	m, e := marks.New(words)
	if e != api.OK {
		t.Fatalf("marks.New(%d): error %d", words, e)
	}
	return m
}

func wordsIn(a *arena.Arena) int {
	_, behind := a.Bounds(api.SpaceTenured)
	return behind
}

func (x *memory) put(t *testing.T, space int, h api.Head) int {
	t.Helper()
	at, ok := x.a.Put(space, h)
	if !ok {
		t.Fatalf("Put(%d, %+v) is refused", space, h)
	}
	return at
}

// lay lays an object with these pointer fields, which may be set before there is what they hold.
func (x *memory) lay(t *testing.T, space, kind int, fields ...int) int {
	t.Helper()
	at := x.put(t, space, api.Head{Serial: 1, Kind: kind, Ptrs: len(fields)})
	for i, to := range fields {
		x.point(t, at, i, to)
	}
	return at
}

// plain lays so many objects without fields in the tenured space.
func (x *memory) plain(t *testing.T, n int) []int {
	t.Helper()
	var l []int
	for range n {
		l = append(l, x.lay(t, api.SpaceTenured, api.Plain))
	}
	return l
}

func (x *memory) point(t *testing.T, at, i, to int) {
	t.Helper()
	if !x.a.SetPtr(at, i, to) {
		t.Fatalf("SetPtr(%d, %d, %d) is refused", at, i, to)
	}
}

// add lays objects at the registry's end.
func (x *memory) add(t *testing.T, ats ...int) {
	t.Helper()
	for _, at := range ats {
		if e := x.r.Add(at); e != api.OK {
			t.Errorf("P10.1: Add(%d): error %d", at, e)
		}
	}
}

// hold makes the registry hold these, whatever they are.
func (x *memory) hold(t *testing.T, ats ...int) {
	t.Helper()
	for range ats {
		x.add(t, x.lay(t, api.SpaceB, api.Final))
	}
	first, _ := x.a.Bounds(api.SpaceB)
	x.a.Cut(api.SpaceB, first)
	i := -1
	x.r.Update(func(int) int {
		i++
		return ats[i]
	})
}

// mark marks all words of these objects.
func (x *memory) mark(ats ...int) {
	for _, at := range ats {
		x.m.Set(at, size(x.a, at))
	}
}

func size(a *arena.Arena, at int) int {
	h, _ := a.Head(at)
	return 2 + h.Ptrs + h.Raws
}

func (x *memory) reach(t *testing.T, workers int, from ...int) {
	t.Helper()
	if e := weak.Reach(x.a, x.m, from, workers); e != api.OK {
		t.Errorf("P10.3: Reach from %v by %d: error %d", from, workers, e)
	}
}

// settle holds Settle to what it answers.
func (x *memory) settle(t *testing.T, workers int, queued []int, cleared int) {
	t.Helper()
	q, n, e := weak.Settle(x.a, x.m, x.r, workers)
	if !slices.Equal(q, queued) || n != cleared || e != api.OK {
		t.Errorf("P10.4: Settle by %d: %v, %d, error %d, want %v, %d", workers, q, n, e, queued, cleared)
	}
}

// marked holds the marks to just all words of these objects.
func (x *memory) marked(t *testing.T, promise string, ats ...int) {
	t.Helper()
	l := []int{}
	for _, at := range ats {
		for i := range size(x.a, at) {
			l = append(l, at+i)
		}
	}
	slices.Sort(l)
	want(t, promise+": marked words", wordsMarked(x.m), l)
}

func wordsMarked(m *marks.Map) []int {
	l := []int{}
	for at := m.Next(0); at >= 0; at = m.Next(at + 1) {
		l = append(l, at)
	}
	return l
}

// list holds the registry to these.
func (x *memory) list(t *testing.T, promise string, ats ...int) {
	t.Helper()
	if !slices.Equal(x.r.List(), ats) {
		t.Errorf("%s: List() = %v, want %v", promise, x.r.List(), ats)
	}
	if got := gathered(x.r); !slices.Equal(got, ats) {
		t.Errorf("%s: All() gives %v, want %v", promise, got, ats)
	}
}

func gathered(r *weak.Registry) []int {
	var l []int
	for at := range r.All() {
		l = append(l, at)
	}
	return l
}

// fields holds an object's pointer fields to these.
func (x *memory) fields(t *testing.T, promise string, at int, fields ...int) {
	t.Helper()
	got := []int{}
	for i := range fields {
		to, _ := x.a.Ptr(at, i)
		got = append(got, to)
	}
	want(t, fmt.Sprintf("%s: fields of the object at %d", promise, at), got, fields)
}

func (x *memory) kind(at int) int {
	h, _ := x.a.Head(at)
	return h.Kind
}

// told is all that can be told of a memory: words, tops, from space, marks, registry.
func (x *memory) told() string { return told(x.a, wordsMarked(x.m), x.r.List()) }

func told(a *arena.Arena, marked, registry []int) string {
	l := []uint64{uint64(a.From())}
	for _, space := range all {
		l = append(l, uint64(a.Top(space)))
	}
	for at := range wordsIn(a) {
		l = append(l, a.Word(at))
	}
	return fmt.Sprint(l, marked, registry)
}

func want(t *testing.T, what string, got, want any) {
	t.Helper()
	if g, w := fmt.Sprint(got), fmt.Sprint(want); g != w {
		t.Errorf("%s: %s, want %s", what, g, w)
	}
}
