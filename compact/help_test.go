package compact_test

import (
	"fmt"
	"slices"
	"testing"

	"midden/api"
	"midden/arena"
	"midden/compact"
	"midden/marks"
)

const (
	least = -1 << 63
	most  = 1<<63 - 1
)

// odd are numbers at which nothing stands in any arena here.
var odd = []int{least, least + 1, -1 << 32, -193, -5, -2, -1, 0, 1 << 18, 1 << 20, 1 << 32, 1<<32 + 1, 1<<32 + 9, 1 << 40, 1<<62 + 1, most - 1, most}

// all are the spaces, in the array's order.
var all = []int{api.SpaceEden, api.SpaceA, api.SpaceB, api.SpaceTenured}

// sized tells a configuration with these spaces.
func sized(eden, survivor, tenured int) api.Config {
	return api.Config{Eden: eden, Survivor: survivor, Tenured: tenured, Large: 40, Floor: 30, Num: 2, Den: 1, Target: 50, MaxAge: 3, Threads: 1, Slots: 16, Handles: 4, Workers: 1}
}

func small() api.Config { return sized(64, 64, 100) }

// memory: an arena, and marks over it.
type memory struct {
	a *arena.Arena
	m *marks.Map
}

func made(t *testing.T, c api.Config) *memory {
	t.Helper()
	a, e := arena.New(c)
	if e != api.OK {
		t.Fatalf("New(%+v): error %d", c, e)
	}
	return &memory{a: a, m: mapOf(t, wordsIn(a))}
}

func mapOf(t *testing.T, words int) *marks.Map {
	t.Helper()
	m, e := marks.New(words)
	if e != api.OK {
		t.Fatalf("marks.New(%d): error %d", words, e)
	}
	return m
}

func wordsIn(a *arena.Arena) int {
	_, behind := a.Bounds(api.SpaceTenured)
	return behind
}

func (x *memory) put(t *testing.T, space int, h api.Head) int {
	t.Helper()
	at, ok := x.a.Put(space, h)
	if !ok {
		t.Fatalf("Put(%d, %+v) is refused", space, h)
	}
	return at
}

func (x *memory) fill(t *testing.T, space, words int) {
	t.Helper()
	if !x.a.Fill(space, words) {
		t.Fatalf("Fill(%d, %d) is refused", space, words)
	}
}

// lay lays a plain object with so many raw fields and these pointer fields, which may be set before there is what they hold.
func (x *memory) lay(t *testing.T, space, raws int, fields ...int) int {
	t.Helper()
	at := x.put(t, space, api.Head{Serial: 1000 + uint64(x.a.Top(space)), Kind: api.Plain, Ptrs: len(fields), Raws: raws})
	for i, to := range fields {
		if !x.a.SetPtr(at, i, to) {
			t.Fatalf("SetPtr(%d, %d, %d) is refused", at, i, to)
		}
	}
	return at
}

// mark marks all words of these objects.
func (x *memory) mark(ats ...int) *memory {
	for _, at := range ats {
		x.m.Set(at, size(x.a, at))
	}
	return x
}

// anew is the same memory with other marks: all words of the objects at these addresses.
func (x *memory) anew(t *testing.T, ats ...int) *memory {
	t.Helper()
	return (&memory{a: x.a, m: mapOf(t, wordsIn(x.a))}).mark(ats...)
}

func size(a *arena.Arena, at int) int {
	h, _ := a.Head(at)
	return 2 + h.Ptrs + h.Raws
}

func (x *memory) plan(t *testing.T, moves ...api.Move) {
	t.Helper()
	got, e := compact.Plan(x.a, x.m)
	if !slices.Equal(got, moves) || e != api.OK {
		t.Errorf("P11.2: Plan: %v, error %d, want %v", got, e, moves)
	}
}

// slide slides, and tells the function that update was handed.
func (x *memory) slide(t *testing.T) (to func(at int) int) {
	t.Helper()
	if e := compact.Slide(x.a, x.m, func(f func(at int) int) { to = f }); e != api.OK || to == nil {
		t.Fatalf("P11.4: Slide: error %d, and it hands a function: %v", e, to != nil)
	}
	return to
}

// refused holds both calls to an error, and to changing and calling nothing.
func (x *memory) refused(t *testing.T, what string, e api.Errno) {
	t.Helper()
	was := x.told()
	asked := false
	list, got := compact.Plan(x.a, x.m)
	if len(list) != 0 || got != e {
		t.Errorf("P11.1: %s: Plan: %v, error %d, want %d", what, list, got, e)
	}
	if got := compact.Slide(x.a, x.m, func(func(int) int) { asked = true }); got != e || asked {
		t.Errorf("P11.1: %s: Slide: error %d, want %d; update is called: %v", what, got, e, asked)
	}
	want(t, "P11.1: "+what+": what there is", x.told(), was)
}

// tops holds the four tops to these.
func (x *memory) tops(t *testing.T, tops ...int) {
	t.Helper()
	got := []int{}
	for _, space := range all {
		got = append(got, x.a.Top(space))
	}
	want(t, "P11.3: tops", got, tops)
}

// goes holds a function to where these go; to nowhere for all else.
func goes(t *testing.T, to func(at int) int, words int, goals map[int]int) {
	t.Helper()
	for at := range words + 70 {
		if to(at) != goals[at] {
			t.Errorf("P11.4: to(%d) = %d, want %d", at, to(at), goals[at])
		}
	}
	for _, at := range odd {
		if to(at) != 0 {
			t.Errorf("P11.4: to(%d) = %d, want 0", at, to(at))
		}
	}
}

// fields holds an object's pointer fields to these.
func (x *memory) fields(t *testing.T, promise string, at int, fields ...int) {
	t.Helper()
	h, ok := x.a.Head(at)
	got := []int{}
	for i := range h.Ptrs {
		to, _ := x.a.Ptr(at, i)
		got = append(got, to)
	}
	if !ok || !slices.Equal(got, fields) {
		t.Errorf("%s: the object at %d: stands: %v, fields %v, want %v", promise, at, ok, got, fields)
	}
}

// told is all that can be told of a memory: words, tops, from space, marks.
func (x *memory) told() string {
	l := []uint64{uint64(x.a.From())}
	for _, space := range all {
		l = append(l, uint64(x.a.Top(space)))
	}
	for at := range wordsIn(x.a) {
		l = append(l, x.a.Word(at))
	}
	return fmt.Sprint(l, wordsMarked(x.m), x.m.Words())
}

func wordsMarked(m *marks.Map) []int {
	l := []int{}
	for at := m.Next(0); at >= 0; at = m.Next(at + 1) {
		l = append(l, at)
	}
	return l
}

func want(t *testing.T, what string, got, want any) {
	t.Helper()
	if g, w := fmt.Sprint(got), fmt.Sprint(want); g != w {
		t.Errorf("%s: %s, want %s", what, g, w)
	}
}
