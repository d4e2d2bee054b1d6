package mutator_test

import (
	"fmt"
	"testing"

	"midden/api"
	"midden/census"
	"midden/heap"
	"midden/image"
	"midden/mutator"
)

// two is the examples' configuration with a second thread.
func two() api.Config {
	c := small()
	c.Threads = 2
	return c
}

// furnished makes a mutator of two threads: thread 0 has a frame of four slots, with a Plain object (serial 1, two pointer fields, three raw ones, site 5), a Weak one (2), which the first one's field 0 holds, and a Final one (3); slot 3 is null. Thread 1 has no frame. A handle (0) holds the second one, another (1) holds null.
func furnished(t *testing.T) *mutator.Mutator {
	t.Helper()
	return begun(t, two(), push(0, 4), alloc(0, 0, api.Plain, 2, 3, 5), alloc(0, 1, api.Weak, 1, 0, 6), alloc(0, 2, api.Final, 0, 1, 255), store(0, 0, 0, 1), put(0, 0, 2, lastWord), opened(0, 1), opened(0, 3))
}

// TestEachKind: P19.2's table, row by row.
func TestEachKind(t *testing.T) {
	ok := api.Reply{}
	m := furnished(t)
	goes(t, "P19.2", m,
		step{hash(0, 0), word(1)}, step{hash(0, 1), word(2)}, step{hash(0, 2), word(3)},
		step{shape(0, 0), api.Reply{Nums: []int{api.Plain, 2, 3, 5}}}, step{shape(0, 1), api.Reply{Nums: []int{api.Weak, 1, 0, 6}}}, step{shape(0, 2), api.Reply{Nums: []int{api.Final, 0, 1, 255}}},
		step{get(0, 0, 2), word(lastWord)}, step{get(0, 0, 1), word(0)}, step{put(0, 0, 1, 77), ok}, step{get(0, 0, 1), word(77)}, step{get(0, 0, 0), word(0)},
		step{load(0, 3, 0, 0), ok}, step{hash(0, 3), word(2)}, step{same(0, 3, 1), api.Reply{Yes: true}}, step{same(0, 3, 0), ok},
		step{store(0, 0, 1, 2), ok}, step{load(0, 3, 0, 1), ok}, step{hash(0, 3), word(3)}, step{store(0, 0, 1, -1), ok}, step{load(0, 3, 0, 1), ok}, step{hash(0, 3), refused(api.ErrHeapNull)},
		step{copied(0, 3, 2), ok}, step{same(0, 2, 3), api.Reply{Yes: true}}, step{copied(0, 3, -1), ok}, step{hash(0, 3), refused(api.ErrHeapNull)},
		step{copied(0, 3, 0), ok}, step{cleared(0, 3), ok}, step{hash(0, 3), refused(api.ErrHeapNull)},
		step{closing(0), ok}, step{opened(0, 0), number(0)}, step{fetch(0, 3, 0), ok}, step{hash(0, 3), word(1)}, step{fetch(0, 3, 1), ok}, step{same(0, 3, 3), api.Reply{Yes: true}}, step{hash(0, 3), refused(api.ErrHeapNull)},
		step{closing(1), ok}, step{opened(0, 2), number(1)},
		step{push(1, 2), ok}, step{alloc(1, 1, api.Ephemeron, 2, 0, 9), word(4)}, step{hash(1, 1), word(4)}, step{hash(1, 0), refused(api.ErrHeapNull)}, step{pop(1), ok}, step{pop(1), refused(api.ErrRootsFrame)},
		step{counted(), api.Reply{Census: [][]uint64{{1, 2, 3, 4}, nil, nil, nil}}}, step{sites(), api.Reply{Sites: []api.Site{{Site: 5, Objects: 1, Words: 7}, {Site: 6, Objects: 1, Words: 3}, {Site: 9, Objects: 1, Words: 4}, {Site: 255, Objects: 1, Words: 3}}}},
		step{audit(), api.Reply{Audit: api.Audit{Live: 13, Floating: 4, Young: 17, Limit: 50}}},
		step{retained(0, 0), number(7)}, step{path(0, 2), pathed(3)}, step{path(0, 1), pathed(1, 2)},
		step{minor(), cycled(api.CycleMinor)}, step{counted(), api.Reply{Census: [][]uint64{nil, nil, {1, 2, 3}, nil}}},
		step{promote(), cycled(api.CycleAll)}, step{counted(), api.Reply{Census: [][]uint64{nil, nil, nil, {1, 2, 3}}}},
		step{cleared(0, 2), ok}, step{closing(1), ok}, step{take(0, 2), refused(api.ErrHeapEmpty)}, step{major(), cycled(api.CycleMajor)}, step{take(0, 2), ok}, step{shape(0, 2), api.Reply{Nums: []int{api.Plain, 0, 1, 255}}},
	)
	b := m.Do(dump())
	g, _, e := image.Read(b.Bytes)
	want(t, "P19.2: OpDump", fmt.Sprint(e, len(g.Objects), g.Next), fmt.Sprint(api.OK, 3, 5))
	b.Bytes = nil
	want(t, "P19.2: OpDump", b, ok)
}

// TestErrors: each kind with each of its call's errors.
func TestErrors(t *testing.T) {
	m := furnished(t)
	for _, thread := range append([]int{-1, 2}, odd...) {
		for _, o := range []api.Op{push(thread, 0), pop(thread)} {
			fails(t, "P19.2: no thread", m, o, api.ErrRootsThread)
		}
	}
	for _, o := range ofSlots(0, 0) {
		for _, thread := range append([]int{-1, 2}, odd...) {
			o.Thread, o.A = thread, -7
			fails(t, "P19.2: no thread", m, o, api.ErrRootsThread)
		}
		o.Thread = 1
		fails(t, "P19.2: no frame", m, o, api.ErrRootsFrame)
		for _, slot := range append([]int{-1, 4}, odd...) {
			o.Thread, o.A = 0, slot
			fails(t, "P19.2: no slot", m, o, api.ErrRootsSlot)
		}
	}
	for _, slot := range append([]int{4}, odd...) {
		for _, o := range []api.Op{load(0, 3, slot, 0), store(0, 0, 0, slot), copied(0, 0, slot), same(0, 0, slot)} {
			fails(t, "P19.2: no second slot", m, o, api.ErrRootsSlot)
		}
	}
	for _, o := range []api.Op{load(0, 0, -1, 0), same(0, 0, -1)} {
		fails(t, "P19.2: -1 isn't null here", m, o, api.ErrRootsSlot)
	}
	for _, o := range []api.Op{load(0, 0, 3, 9), store(0, 3, 9, 0), get(0, 3, 9), put(0, 3, 9, 1), hash(0, 3), shape(0, 3), retained(0, 3), path(0, 3)} {
		fails(t, "P19.2: null", m, o, api.ErrHeapNull)
	}
	for _, field := range append([]int{-1, 3}, odd...) {
		for _, o := range []api.Op{load(0, 3, 0, field), store(0, 0, field, 1), get(0, 0, field), put(0, 0, field, 5)} {
			fails(t, "P19.2: no field", m, o, api.ErrHeapField)
		}
	}
	for _, handle := range append([]int{-1, 2}, odd...) {
		fails(t, "P19.2: no handle", m, fetch(0, 3, handle), api.ErrRootsHandle)
		fails(t, "P19.2: no handle", m, closing(handle), api.ErrRootsHandle)
	}
	fails(t, "P19.2: no handle more", m, opened(0, 0), api.ErrRootsHandles)
	fails(t, "P19.2: an empty queue", m, take(0, 3), api.ErrHeapEmpty)
	fails(t, "P19.2: no frame", m, pop(1), api.ErrRootsFrame)
	for n, e := range map[int]api.Errno{0: api.ErrRootsSize, -1: api.ErrRootsSize, least: api.ErrRootsSize, 5: api.ErrRootsOverflow, greatest: api.ErrRootsOverflow} {
		fails(t, "P19.2: a frame that may not be", m, push(0, n), e)
	}
	does(t, "P19.2", m, closing(1), api.Reply{})
	fails(t, "P19.2: a handle that isn't open", m, fetch(0, 3, 1), api.ErrRootsHandle)
	fails(t, "P19.2: a handle that isn't open", m, closing(1), api.ErrRootsHandle)
}

// ofSlots are the operations that name a slot of a thread's top frame first, all of them right where that is.
func ofSlots(thread, slot int) []api.Op {
	return []api.Op{
		alloc(thread, slot, api.Plain, 0, 0, 0), load(thread, slot, 0, 0), store(thread, slot, 0, -1), get(thread, slot, 0), put(thread, slot, 0, 1), copied(thread, slot, -1), cleared(thread, slot), same(thread, slot, 0),
		hash(thread, slot), shape(thread, slot), opened(thread, slot), fetch(thread, slot, 0), take(thread, slot), retained(thread, slot), path(thread, slot),
	}
}

// TestAllocErrors: those of the operands, and of memory and serials; what was run is told beside want of room.
func TestAllocErrors(t *testing.T) {
	m := furnished(t)
	for _, x := range []struct {
		kind, ptrs, raws, site int
		e                      api.Errno
	}{
		{0, 0, 0, 0, api.ErrCellKind}, {5, -1, -1, -1, api.ErrCellKind}, {greatest, 0, 0, 0, api.ErrCellKind}, {api.Weak, 0, -1, 0, api.ErrCellKind}, {api.Ephemeron, 1, 0, 300, api.ErrCellKind},
		{api.Plain, -1, -1, 0, api.ErrCellPtrs}, {api.Final, 4096, 65536, 0, api.ErrCellPtrs},
		{api.Plain, 0, -1, -1, api.ErrCellRaws}, {api.Plain, 0, 65536, 256, api.ErrCellRaws},
		{api.Plain, 0, 0, -1, api.ErrCellSite}, {api.Plain, 0, 65535, 256, api.ErrCellSite},
	} {
		fails(t, "P19.2: a head that may not be", m, alloc(0, 3, x.kind, x.ptrs, x.raws, x.site), x.e)
	}
	does(t, "P19.2: no room, told with its cycles", m, alloc(0, 3, api.Plain, 0, 65535, 0), api.Reply{Err: api.ErrHeapMemory, Cycles: []int{api.CycleMajor}})
	does(t, "P19.2: the slot stays", m, hash(0, 3), refused(api.ErrHeapNull))
	does(t, "P19.2: no serial is spent", m, alloc(0, 3, api.Plain, 0, 0, 0), word(4))

	b, e := image.Write(api.Graph{Next: api.MaxSerial, Slots: [][][]int{{{0}}, nil}, Handles: []int{-1, -1}})
	want(t, "P16.3", e, api.OK)
	m = loaded(t, two(), b)
	does(t, "P19.2: the last serial", m, alloc(0, 0, api.Plain, 0, 0, 0), word(api.MaxSerial))
	fails(t, "P19.2: no serial is left", m, alloc(0, 0, api.Plain, 0, 65535, 0), api.ErrHeapSerial)
}

// TestNoKind: a Kind that is none, whatever else is told.
func TestNoKind(t *testing.T) {
	m := furnished(t)
	for _, kind := range append([]int{api.OpNone, api.OpPath + 1, -1}, odd...) {
		fails(t, "P19.2: no kind", m, api.Op{Kind: kind}, api.ErrMutOp)
		fails(t, "P19.2: no kind", m, api.Op{Kind: kind, Thread: -1, A: 9, B: 1, C: 1, D: 1, E: 1, Word: 1}, api.ErrMutOp)
	}
}

// names tells which fields a kind names: T is Thread, W is Word.
var names = map[int]string{
	api.OpPush: "TA", api.OpPop: "T", api.OpAlloc: "TABCDE", api.OpLoad: "TABC", api.OpStore: "TABC", api.OpGet: "TAB", api.OpPut: "TABW", api.OpCopy: "TAB", api.OpClear: "TA", api.OpSame: "TAB", api.OpHash: "TA", api.OpShape: "TA",
	api.OpOpen: "TA", api.OpFetch: "TAB", api.OpClose: "A", api.OpTake: "TA", api.OpMinor: "", api.OpAll: "", api.OpMajor: "", api.OpCensus: "", api.OpAudit: "", api.OpSites: "", api.OpDump: "", api.OpRetained: "TA", api.OpPath: "TA",
}

// TestOtherFields: what a kind doesn't name isn't looked at.
func TestOtherFields(t *testing.T) {
	ops := append(ofSlots(0, 0), push(0, 2), pop(0), closing(0), minor(), promote(), major(), counted(), audit(), sites(), dump())
	want(t, "all kinds", len(ops), len(names))
	for _, o := range ops {
		plain := furnished(t)
		r := plain.Do(o)
		for _, n := range append([]int{-1, 1, 2}, odd...) {
			x := o
			for letter, at := range map[rune]*int{'T': &x.Thread, 'A': &x.A, 'B': &x.B, 'C': &x.C, 'D': &x.D, 'E': &x.E} {
				if !named(o.Kind, letter) {
					*at = n
				}
			}
			if !named(o.Kind, 'W') {
				x.Word = uint64(n)
			}
			m := furnished(t)
			want(t, fmt.Sprintf("P19.2: %+v", x), m.Do(x), r)
			want(t, fmt.Sprintf("P19.2: behind %+v", x), state(m), state(plain))
		}
	}
}

func named(kind int, letter rune) bool {
	for _, r := range names[kind] {
		if r == letter {
			return true
		}
	}
	return false
}

// asked tells what a heap's calls come to as a reply, of the kinds that are one.
func asked(h *heap.Heap, o api.Op) api.Reply {
	var x api.Reply
	var r api.Report
	var head api.Head
	switch o.Kind {
	case api.OpPush:
		r, x.Err = h.Push(o.Thread, o.A)
	case api.OpPop:
		r, x.Err = h.Pop(o.Thread)
	case api.OpAlloc:
		r, x.Err = h.Alloc(o.Thread, o.A, o.B, o.C, o.D, o.E)
	case api.OpLoad:
		r, x.Err = h.Load(o.Thread, o.A, o.B, o.C)
	case api.OpStore:
		r, x.Err = h.Store(o.Thread, o.A, o.B, o.C)
	case api.OpPut:
		r, x.Err = h.Put(o.Thread, o.A, o.B, o.Word)
	case api.OpCopy:
		r, x.Err = h.Copy(o.Thread, o.A, o.B)
	case api.OpClear:
		r, x.Err = h.Copy(o.Thread, o.A, -1)
	case api.OpOpen:
		x.Num, r, x.Err = h.Open(o.Thread, o.A)
	case api.OpFetch:
		r, x.Err = h.Fetch(o.Thread, o.A, o.B)
	case api.OpClose:
		r, x.Err = h.Close(o.A)
	case api.OpTake:
		r, x.Err = h.Take(o.Thread, o.A)
	case api.OpMinor, api.OpAll, api.OpMajor:
		r, x.Err = h.Cycle(map[int]int{api.OpMinor: api.CycleMinor, api.OpAll: api.CycleAll, api.OpMajor: api.CycleMajor}[o.Kind])
	case api.OpGet:
		x.Word, x.Err = h.Get(o.Thread, o.A, o.B)
	case api.OpSame:
		x.Yes, x.Err = h.Same(o.Thread, o.A, o.B)
	case api.OpHash:
		head, x.Err = h.Shape(o.Thread, o.A)
		x.Word = head.Serial
	case api.OpShape:
		if head, x.Err = h.Shape(o.Thread, o.A); x.Err == api.OK {
			x.Nums = []int{head.Kind, head.Ptrs, head.Raws, head.Site}
		}
	case api.OpCensus:
		x.Census = census.Of(h)
	case api.OpAudit:
		x.Audit = census.Audit(h)
	case api.OpSites:
		x.Sites = census.Sites(h, false)
	case api.OpDump:
		x.Bytes = image.Save(h)
	default:
		x.Err = api.ErrMutOp
	}
	if o.Kind == api.OpAlloc {
		x.Word = r.Serial
	}
	x.Cycles = r.Cycles
	return x
}

// TestAsTheHeap holds mutators to heaps to which the same is done by their own calls.
func TestAsTheHeap(t *testing.T) {
	for seed := range 60 {
		d := dice(9000 + seed)
		g := generator{d: &d, m: newModel(d.config())}
		h, e := heap.New(g.m.c)
		want(t, "P14.1", e, api.OK)
		m := made(t, g.m.c)
		for i := range 150 {
			o := g.op()
			if i < g.m.c.Threads {
				o = push(i, 3)
			}
			if d.below(30) == 0 {
				o = api.Op{Kind: d.below(30) - 2, Thread: d.below(3), A: d.below(6) - 1, B: d.below(6) - 1, C: d.below(6) - 1, D: d.below(6) - 1, E: d.below(6) - 1, Word: d.word()}
			}
			if o.Kind == api.OpRetained || o.Kind == api.OpPath {
				continue
			}
			r := m.Do(o)
			want(t, fmt.Sprintf("P19.2: %+v", o), r, asked(h, o))
			g.m.follow(o, r, nil)
			if t.Failed() {
				t.Fatalf("seed %d", seed)
			}
		}
	}
}
