package remset_test

import (
	"fmt"
	"slices"
	"testing"

	"midden/api"
	"midden/arena"
	"midden/cell"
	"midden/remset"
)

const (
	least = -1 << 63
	most  = 1<<63 - 1
)

// odd are numbers at which nothing stands in any arena here.
var odd = []int{least, least + 1, -1 << 32, -193, -2, -1, 0, 1 << 18, 1 << 32, 1<<32 + 193, 1 << 40, 1<<62 + 193, most - 1, most}

// all are the spaces, in the array's order.
var all = []int{api.SpaceEden, api.SpaceA, api.SpaceB, api.SpaceTenured}

// words are what the array of a small arena has.
const words = 293

func small() api.Config {
	return api.Config{Eden: 64, Survivor: 64, Tenured: 100, Large: 40, Floor: 30, Num: 2, Den: 1, Target: 50, MaxAge: 3, Threads: 1, Slots: 16, Handles: 4, Workers: 1}
}

func made(t *testing.T, c api.Config) (*arena.Arena, *remset.Set) {
	t.Helper()
	a, e := arena.New(c)
	if e != api.OK {
		t.Fatalf("New(%+v): error %d", c, e)
	}
	s := remset.New(a)
	if s == nil {
		t.Fatal("P6.1: New answers nil")
	}
	return a, s
}

// great tells the greatest arena that may be.
func great(t *testing.T) (*arena.Arena, *remset.Set) {
	t.Helper()
	c := small()
	c.Eden, c.Survivor, c.Tenured = api.MaxSpace, api.MaxSpace, api.MaxSpace
	return made(t, c)
}

func put(t *testing.T, a *arena.Arena, space int, h api.Head) int {
	t.Helper()
	at, ok := a.Put(space, h)
	if !ok {
		t.Fatalf("Put(%d, %+v) is refused", space, h)
	}
	return at
}

// plain lays plain objects with so many pointer fields.
func plain(t *testing.T, a *arena.Arena, space int, ptrs ...int) []int {
	t.Helper()
	var l []int
	for _, n := range ptrs {
		l = append(l, put(t, a, space, api.Head{Serial: 1, Kind: api.Plain, Ptrs: n}))
	}
	return l
}

// memory: young objects with two fields at 1 and 5 (eden) and at 65 (A), one at 129 (B); tenured ones with two fields at 193, 197, 201, 205.
func memory(t *testing.T) (*arena.Arena, *remset.Set) {
	t.Helper()
	a, s := made(t, small())
	got := slices.Concat(plain(t, a, api.SpaceEden, 2, 2), plain(t, a, api.SpaceA, 2), plain(t, a, api.SpaceB, 2), plain(t, a, api.SpaceTenured, 2, 2, 2, 2))
	want(t, "Put", got, []int{1, 5, 65, 129, 193, 197, 201, 205})
	return a, s
}

func want(t *testing.T, what string, got, want any) {
	t.Helper()
	if g, w := fmt.Sprint(got), fmt.Sprint(want); g != w {
		t.Errorf("%s: %s, want %s", what, g, w)
	}
}

func list(t *testing.T, promise string, s *remset.Set, held ...int) {
	t.Helper()
	if got := s.List(); !slices.Equal(got, held) {
		t.Errorf("%s: List() = %v, want %v", promise, got, held)
	}
}

func store(t *testing.T, s *remset.Set, at, i, to int, e api.Errno) {
	t.Helper()
	if got := s.Store(at, i, to); got != e {
		t.Errorf("P6.2: Store(%d, %d, %d) = %d, want %d", at, i, to, got, e)
	}
}

// point writes a field past the Set.
func point(t *testing.T, a *arena.Arena, at, i, to int) {
	t.Helper()
	if !a.SetPtr(at, i, to) {
		t.Fatalf("SetPtr(%d, %d, %d) is refused", at, i, to)
	}
}

// hold writes Held past the Set.
func hold(t *testing.T, a *arena.Arena, is bool, ats ...int) {
	t.Helper()
	for _, at := range ats {
		h, _ := a.Head(at)
		h.Held = is
		if !a.SetHead(at, h) {
			t.Fatalf("SetHead(%d) is refused", at)
		}
	}
}

// heldAt tells all addresses at which a walk meets an object with Held.
func heldAt(a *arena.Arena) []int {
	var l []int
	for _, space := range all {
		for at, h := range a.Objects(space) {
			if h.Held {
				l = append(l, at)
			}
		}
	}
	return l
}

func missing(t *testing.T, s *remset.Set, at int, is bool) {
	t.Helper()
	if got, ok := s.Missing(); got != at || ok != is {
		t.Errorf("P6.6: Missing() = %d, %v, want %d, %v", got, ok, at, is)
	}
}

// image: all words of an arena, its tops and its from space.
func image(a *arena.Arena) []uint64 {
	_, behind := a.Bounds(api.SpaceTenured)
	l := []uint64{uint64(a.From())}
	for _, space := range all {
		l = append(l, uint64(a.Top(space)))
	}
	for at := range behind {
		l = append(l, a.Word(at))
	}
	return l
}

// told is all that an arena and its Set tell.
func told(a *arena.Arena, s *remset.Set) string {
	at, ok := s.Missing()
	return fmt.Sprint(image(a), s.List(), at, ok)
}

// model: the chapter, word for word, over the words of an arena of its own.
type model struct {
	a    *arena.Arena
	list []int
}

// stands: P3.7's words.
func (m *model) stands(at int) (api.Head, bool) {
	space := m.a.Space(at)
	h, ok := cell.Unpack(m.a.Word(at))
	if space == api.SpaceNone || !ok || at+2+h.Ptrs+h.Raws > m.a.Top(space) {
		return api.Head{}, false
	}
	return h, true
}

func (m *model) young(at uint64) bool {
	from, behind := m.a.Bounds(m.a.From())
	return at >= 1 && at < 1+uint64(m.a.Config().Eden) || at >= uint64(from) && at < uint64(behind)
}

// holds tells whether at is a tenured object that holds a young pointer.
func (m *model) holds(at int) bool {
	first, behind := m.a.Bounds(api.SpaceTenured)
	h, _ := m.stands(at)
	if at < first || at >= behind {
		return false
	}
	for i := range h.Ptrs {
		if m.young(m.a.Word(at + 2 + i)) {
			return true
		}
	}
	return false
}

func (m *model) hold(at int, is bool) { m.a.SetWord(at, cell.WithHeld(m.a.Word(at), is)) }

func (m *model) store(at, i, to int) api.Errno {
	h, ok := m.stands(at)
	if !ok {
		return api.ErrRemObject
	}
	if i < 0 || i >= h.Ptrs {
		return api.ErrRemField
	}
	if _, ok := m.stands(to); to != 0 && !ok {
		return api.ErrRemTarget
	}
	m.a.SetWord(at+2+i, uint64(to))
	if m.a.Space(at) == api.SpaceTenured && m.young(uint64(to)) && !slices.Contains(m.list, at) {
		m.list = append(m.list, at)
		m.hold(at, true)
	}
	return api.OK
}

func (m *model) prune(more []int) {
	old := m.list
	m.list = nil
	for _, at := range slices.Concat(old, more) {
		if m.holds(at) && !slices.Contains(m.list, at) {
			m.list = append(m.list, at)
		}
	}
	for _, at := range slices.Concat(old, more) {
		if _, ok := m.stands(at); ok {
			m.hold(at, slices.Contains(m.list, at))
		}
	}
}

func (m *model) rebuild() {
	var met []int
	for at := range m.a.Objects(api.SpaceTenured) {
		met = append(met, at)
	}
	m.list = nil
	for _, at := range met {
		if m.holds(at) {
			m.list = append(m.list, at)
		}
	}
	for _, at := range met {
		m.hold(at, slices.Contains(m.list, at))
	}
}

func (m *model) missing() (int, bool) {
	for at := range m.a.Objects(api.SpaceTenured) {
		if m.holds(at) && !slices.Contains(m.list, at) {
			return at, true
		}
	}
	return 0, false
}

func (m *model) told() string {
	at, ok := m.missing()
	return fmt.Sprint(image(m.a), m.list, at, ok)
}

// dice: numbers that look like chance and are the same at every run.
type dice uint64

func (d *dice) word() uint64 {
	*d += 0x9e3779b97f4a7c15
	x := uint64(*d)
	x = (x ^ x>>30) * 0xbf58476d1ce4e5b9
	x = (x ^ x>>27) * 0x94d049bb133111eb
	return x ^ x>>31
}

func (d *dice) below(n int) int { return int(d.word() % uint64(n)) }

// head tells one that may be, with few fields.
func (d *dice) head() api.Head {
	kind := []int{api.Plain, api.Weak, api.Ephemeron, api.Final}[d.below(4)]
	least := map[int]int{api.Weak: 1, api.Ephemeron: 2}[kind]
	return api.Head{Serial: d.word() >> d.below(64), Kind: kind, Ptrs: least + d.below(3), Raws: d.below(3), Age: d.below(16), Site: d.below(256), Held: d.below(2) == 0}
}
