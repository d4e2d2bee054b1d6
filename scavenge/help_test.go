package scavenge_test

import (
	"fmt"
	"slices"
	"testing"

	"midden/api"
	"midden/arena"
	"midden/cell"
	"midden/remset"
	"midden/roots"
	"midden/scavenge"
)

const (
	least = -1 << 63
	most  = 1<<63 - 1
)

// odd are numbers at which nothing stands in any arena here.
var odd = []int{least, least + 1, -1 << 32, -193, -2, -1, 1 << 18, 1 << 32, 1<<32 + 1, 1 << 40, 1<<62 + 1, most - 1, most}

// all are the spaces, in the array's order.
var all = []int{api.SpaceEden, api.SpaceA, api.SpaceB, api.SpaceTenured}

func small() api.Config {
	return api.Config{Eden: 64, Survivor: 64, Tenured: 100, Large: 40, Floor: 30, Num: 2, Den: 1, Target: 50, MaxAge: 3, Threads: 2, Slots: 16, Handles: 4, Workers: 1}
}

// sized is small with other spaces.
func sized(eden, survivor, tenured int) api.Config {
	c := small()
	c.Eden, c.Survivor, c.Tenured = eden, survivor, tenured
	return c
}

// memory: an arena, roots with a frame of eight slots of the first of two threads, a Set, a registry.
type memory struct {
	a        *arena.Arena
	r        *roots.Roots
	s        *remset.Set
	registry []int
}

func made(t *testing.T, c api.Config) *memory {
	t.Helper()
	a, e := arena.New(c)
	r, f := roots.New(c.Threads, c.Slots, c.Handles)
	if e != api.OK || f != api.OK {
		t.Fatalf("New(%+v): errors %d, %d", c, e, f)
	}
	if e := r.Push(0, 8); e != api.OK {
		t.Fatalf("Push: error %d", e)
	}
	return &memory{a: a, r: r, s: remset.New(a)}
}

func (m *memory) put(t *testing.T, space int, h api.Head) int {
	t.Helper()
	at, ok := m.a.Put(space, h)
	if !ok {
		t.Fatalf("Put(%d, %+v) is refused", space, h)
	}
	return at
}

// plain lays a plain object of age 0 with these pointer fields, which may hold what isn't there yet.
func (m *memory) plain(t *testing.T, space int, serial uint64, fields ...int) int {
	t.Helper()
	return m.lay(t, space, api.Head{Serial: serial, Kind: api.Plain}, fields...)
}

func (m *memory) lay(t *testing.T, space int, h api.Head, fields ...int) int {
	t.Helper()
	h.Ptrs = len(fields)
	at := m.put(t, space, h)
	for i, to := range fields {
		m.point(t, at, i, to)
	}
	return at
}

// point writes a field past the Set.
func (m *memory) point(t *testing.T, at, i, to int) {
	t.Helper()
	if !m.a.SetPtr(at, i, to) {
		t.Fatalf("SetPtr(%d, %d, %d) is refused", at, i, to)
	}
}

func (m *memory) store(t *testing.T, at, i, to int) {
	t.Helper()
	if e := m.s.Store(at, i, to); e != api.OK {
		t.Fatalf("Store(%d, %d, %d): error %d", at, i, to, e)
	}
}

// hold makes the first slots hold these.
func (m *memory) hold(t *testing.T, ats ...int) {
	t.Helper()
	for i, at := range ats {
		if e := m.r.Set(0, i, at); e != api.OK {
			t.Fatalf("Set(0, %d, %d): error %d", i, at, e)
		}
	}
}

func (m *memory) fill(t *testing.T, space, words int) {
	t.Helper()
	if !m.a.Fill(space, words) {
		t.Fatalf("Fill(%d, %d) is refused", space, words)
	}
}

// run runs a cycle; the registry becomes what it tells.
func (m *memory) run(t *testing.T, threshold, cycle int) api.Minor {
	t.Helper()
	x, e := scavenge.Run(m.a, m.r, m.s, m.registry, threshold, cycle)
	if e != api.OK {
		t.Fatalf("P9.2: Run with threshold %d, cycle %d: error %d", threshold, cycle, e)
	}
	m.registry = slices.Clone(x.Registry)
	return x
}

func want(t *testing.T, what string, got, want any) {
	t.Helper()
	if g, w := fmt.Sprint(got), fmt.Sprint(want); g != w {
		t.Errorf("%s: %s, want %s", what, g, w)
	}
}

// thing: an object where it stands.
type thing struct {
	At   int
	Head api.Head
	Ptrs []int
	Raws []uint64
}

func (m *memory) thing(at int) thing {
	h, _ := m.a.Head(at)
	x := thing{At: at, Head: h, Ptrs: []int{}, Raws: []uint64{}}
	for i := range h.Ptrs {
		to, _ := m.a.Ptr(at, i)
		x.Ptrs = append(x.Ptrs, to)
	}
	for i := range h.Raws {
		w, _ := m.a.Raw(at, i)
		x.Raws = append(x.Raws, w)
	}
	return x
}

// things tells all objects of a space.
func (m *memory) things(space int) []thing {
	var l []thing
	for at := range m.a.Objects(space) {
		l = append(l, m.thing(at))
	}
	return l
}

// where tells addresses and serials of a space's objects.
func (m *memory) where(space int) [][2]int {
	l := [][2]int{}
	for at, h := range m.a.Objects(space) {
		l = append(l, [2]int{at, int(h.Serial)})
	}
	return l
}

// serials tells those of a space's objects.
func (m *memory) serials(space int) []uint64 {
	l := []uint64{}
	for _, h := range m.a.Objects(space) {
		l = append(l, h.Serial)
	}
	return l
}

// words tells the words of the array that are in use, with the tops and the from space.
func (m *memory) words() []uint64 {
	l := []uint64{uint64(m.a.From())}
	for _, space := range all {
		first, _ := m.a.Bounds(space)
		l = append(l, uint64(m.a.Top(space)))
		for at := first; at < m.a.Top(space); at++ {
			l = append(l, m.a.Word(at))
		}
	}
	return l
}

// told is all that can be told of a memory, the words that aren't in use apart.
func (m *memory) told() string {
	return fmt.Sprint(m.words(), m.r.Frames(0), m.r.Frames(1), m.r.All(), m.r.Handles(), m.r.Queue(), m.s.List(), m.registry)
}

// image is that and the words that aren't in use.
func (m *memory) image() string {
	_, behind := m.a.Bounds(api.SpaceTenured)
	var l []uint64
	for at := range behind {
		l = append(l, m.a.Word(at))
	}
	return fmt.Sprint(m.told(), l)
}

func size(h api.Head) int { return 2 + h.Ptrs + h.Raws }

func (m *memory) occupied(space int) int {
	first, _ := m.a.Bounds(space)
	return m.a.Top(space) - first
}

func (m *memory) youngOccupied() int { return m.occupied(api.SpaceEden) + m.occupied(m.a.From()) }

// model: the chapter's section 'The calls', word for word, over a memory of its own. Where an object has gone it keeps beside the array.
type model struct {
	*memory
	threshold, cycle int
	gone             map[int]int
	young, old       []int // the copies, in the order in which they were taken
	throughYoung     int   // so many of them have been gone through
	throughOld       int
	answer           api.Minor
}

// minor does to a memory what Run is to do.
func (m *memory) minor(threshold, cycle int) api.Minor {
	x := &model{memory: m, threshold: threshold, cycle: cycle, gone: map[int]int{}}
	m.r.Update(x.meet)
	for i, at := range m.registry {
		m.registry[i] = x.meet(at)
	}
	for _, at := range m.s.List() {
		x.fields(at)
	}
	for x.throughYoung < len(x.young) || x.throughOld < len(x.old) {
		if x.throughYoung < len(x.young) {
			x.throughYoung++
			x.fields(x.young[x.throughYoung-1])
			continue
		}
		x.throughOld++
		x.fields(x.old[x.throughOld-1])
	}
	for _, space := range []int{api.SpaceEden, m.a.From()} {
		first, _ := m.a.Bounds(space)
		m.a.Cut(space, first)
	}
	m.a.Swap()
	m.s.Prune(x.old...)
	x.answer.Registry = slices.Clone(m.registry)
	return x.answer
}

func (x *model) fields(at int) {
	h, _ := cell.Unpack(x.a.Word(at))
	for i := range h.Ptrs {
		x.a.SetWord(at+2+i, uint64(x.meet(int(x.a.Word(at+2+i)))))
	}
}

func (x *model) meet(at int) int {
	if space := x.a.Space(at); space != api.SpaceEden && space != x.a.From() {
		return at
	}
	if to, ok := x.gone[at]; ok {
		return to
	}
	h, _ := cell.Unpack(x.a.Word(at))
	words, space := size(h), x.a.To()
	young := x.cycle == api.CycleMinor && h.Age+1 <= x.threshold
	if !young || x.a.Free(space) < words {
		space = api.SpaceTenured
	}
	to, _ := x.a.Take(space, words)
	for i := range words {
		x.a.SetWord(to+i, x.a.Word(at+i))
	}
	age := min(h.Age+1, 15)
	x.a.SetWord(to, cell.WithHeld(cell.WithAge(x.a.Word(at), age), false))
	x.gone[at] = to
	if space == api.SpaceTenured {
		x.old = append(x.old, to)
		x.answer.Promoted++
		if young {
			x.answer.Overflow++
		}
		return to
	}
	x.young = append(x.young, to)
	x.answer.Copied++
	x.answer.Words[age] += words
	return to
}

// dice: numbers that look like chance and are the same at every run.
type dice uint64

func (d *dice) word() uint64 {
	*d += 0x9e3779b97f4a7c15
	x := uint64(*d)
	x = (x ^ x>>30) * 0xbf58476d1ce4e5b9
	x = (x ^ x>>27) * 0x94d049bb133111eb
	return x ^ x>>31
}

func (d *dice) below(n int) int { return int(d.word() % uint64(n)) }

// head tells one that may be, with few fields.
func (d *dice) head(serial uint64) api.Head {
	kind := []int{api.Plain, api.Weak, api.Ephemeron, api.Final}[d.below(4)]
	least := map[int]int{api.Weak: 1, api.Ephemeron: 2}[kind]
	return api.Head{Serial: serial, Kind: kind, Ptrs: least + d.below(3), Raws: d.below(3), Age: d.below(16), Site: d.below(256), Held: d.below(2) == 0}
}
