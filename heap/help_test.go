package heap_test

import (
	"fmt"
	"slices"
	"testing"

	"midden/api"
	"midden/heap"
)

const (
	least    = -1 << 63
	greatest = 1<<63 - 1
)

// odd are numbers that are no thread, slot, field, handle, kind or cycle of any heap here.
var odd = []int{least, least + 1, -1 << 32, -65536, -3, -2, 1 << 17, 1 << 31, 1 << 32, 1<<32 + 1, 1 << 62, greatest - 1, greatest}

// all are the spaces, in the array's order.
var all = []int{api.SpaceEden, api.SpaceA, api.SpaceB, api.SpaceTenured}

// small is the configuration of the chapter's examples.
func small() api.Config {
	return api.Config{Eden: 64, Survivor: 64, Tenured: 100, Large: 64, Floor: 50, Num: 2, Den: 1, Target: 50, MaxAge: 2, Threads: 1, Slots: 8, Handles: 2, Workers: 1}
}

func made(t *testing.T, c api.Config) *heap.Heap {
	t.Helper()
	h, e := heap.New(c)
	if h == nil || e != api.OK {
		t.Fatalf("P14.1: New(%+v): error %d", c, e)
	}
	return h
}

// begun makes a heap with a frame of so many slots.
func begun(t *testing.T, c api.Config, slots int) *heap.Heap {
	t.Helper()
	h := made(t, c)
	does(t, "P14.3", h, push(0, slots), "")
	return h
}

func restored(t *testing.T, c api.Config, g api.Graph) *heap.Heap {
	t.Helper()
	h, e := heap.Restore(c, g)
	if h == nil || e != api.OK {
		t.Fatalf("P14.2: Restore(%+v, %+v): error %d", c, g, e)
	}
	return h
}

// answer: all that an operation answers.
type answer struct {
	serial, word uint64
	yes          bool
	handle       int
	head         api.Head
	cycles       []int
	err          api.Errno
}

// ask does an operation; which call it is, and of what, doc/19-mutator.md says.
func ask(h *heap.Heap, o api.Op) answer {
	var x answer
	var r api.Report
	switch o.Kind {
	case api.OpPush:
		r, x.err = h.Push(o.Thread, o.A)
	case api.OpPop:
		r, x.err = h.Pop(o.Thread)
	case api.OpAlloc:
		r, x.err = h.Alloc(o.Thread, o.A, o.B, o.C, o.D, o.E)
	case api.OpLoad:
		r, x.err = h.Load(o.Thread, o.A, o.B, o.C)
	case api.OpStore:
		r, x.err = h.Store(o.Thread, o.A, o.B, o.C)
	case api.OpGet:
		x.word, x.err = h.Get(o.Thread, o.A, o.B)
	case api.OpPut:
		r, x.err = h.Put(o.Thread, o.A, o.B, o.Word)
	case api.OpCopy:
		r, x.err = h.Copy(o.Thread, o.A, o.B)
	case api.OpSame:
		x.yes, x.err = h.Same(o.Thread, o.A, o.B)
	case api.OpShape:
		x.head, x.err = h.Shape(o.Thread, o.A)
	case api.OpOpen:
		x.handle, r, x.err = h.Open(o.Thread, o.A)
	case api.OpFetch:
		r, x.err = h.Fetch(o.Thread, o.A, o.B)
	case api.OpClose:
		r, x.err = h.Close(o.A)
	case api.OpTake:
		r, x.err = h.Take(o.Thread, o.A)
	case api.OpMinor:
		r, x.err = h.Cycle(api.CycleMinor)
	case api.OpAll:
		r, x.err = h.Cycle(api.CycleAll)
	case api.OpMajor:
		r, x.err = h.Cycle(api.CycleMajor)
	}
	x.serial, x.cycles = r.Serial, r.Cycles
	return x
}

// The operations, as literals that are easy to read.
func push(thread, n int) api.Op { return api.Op{Kind: api.OpPush, Thread: thread, A: n} }
func pop(thread int) api.Op     { return api.Op{Kind: api.OpPop, Thread: thread} }
func alloc(thread, slot, kind, ptrs, raws, site int) api.Op {
	return api.Op{Kind: api.OpAlloc, Thread: thread, A: slot, B: kind, C: ptrs, D: raws, E: site}
}
func load(thread, dst, src, field int) api.Op {
	return api.Op{Kind: api.OpLoad, Thread: thread, A: dst, B: src, C: field}
}
func store(thread, dst, field, src int) api.Op {
	return api.Op{Kind: api.OpStore, Thread: thread, A: dst, B: field, C: src}
}
func get(thread, src, field int) api.Op {
	return api.Op{Kind: api.OpGet, Thread: thread, A: src, B: field}
}
func put(thread, dst, field int, w uint64) api.Op {
	return api.Op{Kind: api.OpPut, Thread: thread, A: dst, B: field, Word: w}
}
func copied(thread, dst, src int) api.Op {
	return api.Op{Kind: api.OpCopy, Thread: thread, A: dst, B: src}
}
func same(thread, a, b int) api.Op   { return api.Op{Kind: api.OpSame, Thread: thread, A: a, B: b} }
func shape(thread, slot int) api.Op  { return api.Op{Kind: api.OpShape, Thread: thread, A: slot} }
func opened(thread, slot int) api.Op { return api.Op{Kind: api.OpOpen, Thread: thread, A: slot} }
func fetch(thread, dst, handle int) api.Op {
	return api.Op{Kind: api.OpFetch, Thread: thread, A: dst, B: handle}
}
func closing(handle int) api.Op   { return api.Op{Kind: api.OpClose, A: handle} }
func take(thread, dst int) api.Op { return api.Op{Kind: api.OpTake, Thread: thread, A: dst} }
func minor() api.Op               { return api.Op{Kind: api.OpMinor} }
func promote() api.Op             { return api.Op{Kind: api.OpAll} }
func major() api.Op               { return api.Op{Kind: api.OpMajor} }

// told is an answer as a text: what isn't zero of it.
func (x answer) told() string {
	s := ""
	tell := func(name string, is bool, what any) {
		if is {
			s += fmt.Sprint(" ", name, " ", what)
		}
	}
	tell("error", x.err != api.OK, int(x.err))
	tell("serial", x.serial != 0, x.serial)
	tell("word", x.word != 0, x.word)
	tell("yes", x.yes, "")
	tell("handle", x.handle != 0, x.handle)
	tell("head", x.head != (api.Head{}), x.head)
	tell("after", len(x.cycles) > 0, x.cycles)
	return s
}

// does holds an operation to its answer, told without the first blank.
func does(t *testing.T, promise string, h *heap.Heap, o api.Op, answer string) {
	t.Helper()
	got := ask(h, o).told()
	if answer != "" {
		answer = " " + answer
	}
	if got != answer {
		t.Errorf("%s: %+v answers%s, want%s", promise, o, got, answer)
	}
}

// fails holds an operation to its error, and to changing nothing.
func fails(t *testing.T, promise string, h *heap.Heap, o api.Op, e api.Errno) {
	t.Helper()
	was := state(h)
	does(t, promise, h, o, fmt.Sprint("error ", int(e)))
	want(t, promise+": behind the error", state(h), was)
}

// state: all that can be told of a heap.
func state(h *heap.Heap) string {
	s := fmt.Sprint(h.View(), h.Limit(), h.Threshold(), h.Fillers(), h.Check(), h.Graph(true), h.Graph(false))
	for _, space := range all {
		for at, x := range h.Objects(space) {
			s += fmt.Sprint(" ", space, at, x)
		}
	}
	return s
}

// lies: by space, the serials with their ages.
func lies(h *heap.Heap) string {
	var l []string
	for _, space := range all {
		for _, x := range h.Objects(space) {
			l = append(l, fmt.Sprintf("%d:%d.%d", space, x.Serial, x.Age))
		}
	}
	return fmt.Sprint(l)
}

// serials tells those of a graph's objects by number, 0 for null.
func serials(g api.Graph, numbers []int) []uint64 {
	var l []uint64
	for _, n := range numbers {
		if n < 1 {
			l = append(l, 0)
		} else {
			l = append(l, g.Objects[n-1].Serial)
		}
	}
	return l
}

func want(t *testing.T, what string, got, want any) {
	t.Helper()
	if g, w := fmt.Sprint(got), fmt.Sprint(want); g != w {
		t.Errorf("%s: %s, want %s", what, g, w)
	}
}

// dice: numbers that look like chance and are the same at every run.
type dice uint64

func (d *dice) word() uint64 {
	*d += 0x9e3779b97f4a7c15
	x := uint64(*d)
	x = (x ^ x>>30) * 0xbf58476d1ce4e5b9
	x = (x ^ x>>27) * 0x94d049bb133111eb
	return x ^ x>>31
}

func (d *dice) below(n int) int { return int(d.word() % uint64(n)) }

func (d *dice) of(list ...int) int { return list[d.below(len(list))] }

// ran tells whether a cycle is among some.
func ran(cycles []int, cycle int) bool { return slices.Contains(cycles, cycle) }
