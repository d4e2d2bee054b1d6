package census_test

import (
	"fmt"
	"slices"
	"testing"

	"midden/api"
	"midden/census"
	"midden/heap"
)

// small is the configuration of layer 14's examples.
func small() api.Config {
	return api.Config{Eden: 64, Survivor: 64, Tenured: 100, Large: 64, Floor: 50, Num: 2, Den: 1, Target: 50, MaxAge: 2, Threads: 1, Slots: 8, Handles: 2, Workers: 1}
}

func made(t *testing.T, c api.Config) *heap.Heap {
	t.Helper()
	h, e := heap.New(c)
	if h == nil || e != api.OK {
		t.Fatalf("New(%+v): error %d", c, e)
	}
	return h
}

// begun makes a heap with a frame of four slots a thread.
func begun(t *testing.T, c api.Config) *heap.Heap {
	t.Helper()
	h := made(t, c)
	for thread := range c.Threads {
		does(t, h, push(thread, 4))
	}
	return h
}

func restored(t *testing.T, c api.Config, g api.Graph) *heap.Heap {
	t.Helper()
	h, e := heap.Restore(c, g)
	if h == nil || e != api.OK {
		t.Fatalf("Restore(%+v, %+v): error %d", c, g, e)
	}
	return h
}

// answer: what an operation answers, as far as tests here ask for it.
type answer struct {
	report api.Report
	handle int
	err    api.Errno
}

// ask does an operation; which call it is, and of what, doc/19-mutator.md says.
func ask(h *heap.Heap, o api.Op) answer {
	var x answer
	switch o.Kind {
	case api.OpPush:
		x.report, x.err = h.Push(o.Thread, o.A)
	case api.OpPop:
		x.report, x.err = h.Pop(o.Thread)
	case api.OpAlloc:
		x.report, x.err = h.Alloc(o.Thread, o.A, o.B, o.C, o.D, o.E)
	case api.OpLoad:
		x.report, x.err = h.Load(o.Thread, o.A, o.B, o.C)
	case api.OpStore:
		x.report, x.err = h.Store(o.Thread, o.A, o.B, o.C)
	case api.OpPut:
		x.report, x.err = h.Put(o.Thread, o.A, o.B, o.Word)
	case api.OpCopy:
		x.report, x.err = h.Copy(o.Thread, o.A, o.B)
	case api.OpOpen:
		x.handle, x.report, x.err = h.Open(o.Thread, o.A)
	case api.OpFetch:
		x.report, x.err = h.Fetch(o.Thread, o.A, o.B)
	case api.OpClose:
		x.report, x.err = h.Close(o.A)
	case api.OpTake:
		x.report, x.err = h.Take(o.Thread, o.A)
	case api.OpMinor:
		x.report, x.err = h.Cycle(api.CycleMinor)
	case api.OpAll:
		x.report, x.err = h.Cycle(api.CycleAll)
	case api.OpMajor:
		x.report, x.err = h.Cycle(api.CycleMajor)
	}
	return x
}

// The operations, as literals that are easy to read.
func push(thread, n int) api.Op { return api.Op{Kind: api.OpPush, Thread: thread, A: n} }
func pop(thread int) api.Op     { return api.Op{Kind: api.OpPop, Thread: thread} }
func alloc(thread, slot, kind, ptrs, raws, site int) api.Op {
	return api.Op{Kind: api.OpAlloc, Thread: thread, A: slot, B: kind, C: ptrs, D: raws, E: site}
}
func load(thread, dst, src, field int) api.Op {
	return api.Op{Kind: api.OpLoad, Thread: thread, A: dst, B: src, C: field}
}
func store(thread, dst, field, src int) api.Op {
	return api.Op{Kind: api.OpStore, Thread: thread, A: dst, B: field, C: src}
}
func put(thread, dst, field int, w uint64) api.Op {
	return api.Op{Kind: api.OpPut, Thread: thread, A: dst, B: field, Word: w}
}
func copied(thread, dst, src int) api.Op {
	return api.Op{Kind: api.OpCopy, Thread: thread, A: dst, B: src}
}
func opened(thread, slot int) api.Op { return api.Op{Kind: api.OpOpen, Thread: thread, A: slot} }
func fetch(thread, dst, handle int) api.Op {
	return api.Op{Kind: api.OpFetch, Thread: thread, A: dst, B: handle}
}
func closing(handle int) api.Op   { return api.Op{Kind: api.OpClose, A: handle} }
func take(thread, dst int) api.Op { return api.Op{Kind: api.OpTake, Thread: thread, A: dst} }
func minor() api.Op               { return api.Op{Kind: api.OpMinor} }
func promote() api.Op             { return api.Op{Kind: api.OpAll} }
func major() api.Op               { return api.Op{Kind: api.OpMajor} }

// does does operations, none of which is to be refused.
func does(t *testing.T, h *heap.Heap, ops ...api.Op) {
	t.Helper()
	for _, o := range ops {
		if x := ask(h, o); x.err != api.OK {
			t.Fatalf("%+v: error %d", o, x.err)
		}
	}
}

// first is the heap of layer 14's first example.
func first(t *testing.T) *heap.Heap {
	t.Helper()
	h := made(t, small())
	does(t, h, push(0, 3), alloc(0, 0, api.Plain, 1, 8, 5))
	for range 5 {
		does(t, h, alloc(0, 1, api.Plain, 1, 8, 5))
	}
	return h
}

func want(t *testing.T, what string, got, want any) {
	t.Helper()
	if g, w := fmt.Sprint(got), fmt.Sprint(want); g != w {
		t.Errorf("%s: %s, want %s", what, g, w)
	}
}

// by tells what stands at some ages, as Ages does.
func by(words map[int]int) [16]int {
	var ages [16]int
	for age, n := range words {
		ages[age] = n
	}
	return ages
}

// told: all that a census tells of a heap.
func told(h *heap.Heap) string {
	return fmt.Sprint(census.Of(h), census.Audit(h), census.Sites(h, false), census.Sites(h, true), census.Ages(h))
}

// state: all that a heap tells of itself.
func state(h *heap.Heap) string {
	s := fmt.Sprint(h.View(), h.Limit(), h.Threshold(), h.Fillers(), h.Check(), h.Graph(true), h.Graph(false))
	for space := api.SpaceEden; space <= api.SpaceTenured; space++ {
		for at, x := range h.Objects(space) {
			s += fmt.Sprint(" ", space, at, x)
		}
	}
	return s
}

// dice: numbers that look like chance and are the same at every run.
type dice uint64

func (d *dice) word() uint64 {
	*d += 0x9e3779b97f4a7c15
	x := uint64(*d)
	x = (x ^ x>>30) * 0xbf58476d1ce4e5b9
	x = (x ^ x>>27) * 0x94d049bb133111eb
	return x ^ x>>31
}

func (d *dice) below(n int) int { return int(d.word() % uint64(n)) }

func (d *dice) of(list ...int) int { return list[d.below(len(list))] }

// config tells one of many.
func (d *dice) config() api.Config {
	eden := 64 + d.below(64)*d.below(3)
	den := 1 + d.below(3)
	return api.Config{
		Eden: eden, Survivor: 64 + d.below(64)*d.below(2), Tenured: 64 + d.below(300)*d.below(3),
		Large: d.of(2, 8, 20, 40, 64, 65536), Floor: d.of(0, 20, 50, 100, 65536), Num: den + d.below(4), Den: den,
		Target: 1 + d.below(100), MaxAge: d.of(1, 2, 4, 15), Threads: 1 + d.below(3), Slots: 4 + d.below(12), Handles: d.below(4),
		Buffer: d.of(0, 0, 10, 25, eden), Workers: 1 + d.below(8)*d.below(2),
	}
}

// op tells an operation; many of them are refused.
func (d *dice) op(c api.Config) api.Op {
	thread, slot, other, field, handle := d.below(c.Threads), d.below(4), d.below(4), d.below(4)-d.below(20)/19, d.below(c.Handles+1)
	switch k := d.below(100); {
	case k < 2:
		return push(thread, 2+d.below(3))
	case k < 3:
		return pop(thread)
	case k < 38:
		kind := d.of(1, 1, 1, 1, 2, 3, 3, 4)
		return alloc(thread, slot, kind, d.below(4)+[]int{0, 0, 1, 2, 0}[kind], d.below(d.of(2, 10, 30, 80)), d.of(0, 1, 2, 3, 77, 254, 255, 256))
	case k < 46:
		return load(thread, slot, other, field)
	case k < 72:
		return store(thread, slot, field, d.of(-1, other, other, other))
	case k < 76:
		return put(thread, slot, field, d.word())
	case k < 84:
		return copied(thread, slot, d.of(-1, other))
	case k < 86:
		return opened(thread, slot)
	case k < 88:
		return fetch(thread, slot, handle)
	case k < 90:
		return closing(handle)
	case k < 92:
		return take(thread, slot)
	case k < 96:
		return minor()
	case k < 98:
		return promote()
	}
	return major()
}

// moves tells whether an operation is of those that may move objects at all.
func moves(o api.Op) bool {
	return slices.Contains([]int{api.OpAlloc, api.OpMinor, api.OpAll, api.OpMajor}, o.Kind)
}
