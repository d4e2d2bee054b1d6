package heap_test

import (
	"fmt"
	"testing"

	"midden/api"
	"midden/heap"
)

// run: a heap with its model, and the dice that say what is done to both.
type run struct {
	h *heap.Heap
	m *model
	d *dice
	n int // so many raw fields an object has at most, but for some
}

// config tells one of many.
func (d *dice) config() api.Config {
	eden := 64 + d.below(64)*d.below(3)
	den := 1 + d.below(3)
	return api.Config{
		Eden: eden, Survivor: 64 + d.below(64)*d.below(2), Tenured: 64 + d.below(300)*d.below(3),
		Large: d.of(2, 8, 20, 40, 64, 65536), Floor: d.of(0, 20, 50, 100, 65536), Num: den + d.below(4), Den: den,
		Target: 1 + d.below(100), MaxAge: 1 + d.below(4)*d.below(5), Threads: 1 + d.below(3), Slots: 4 + d.below(12), Handles: d.below(4),
		Buffer: d.of(0, 0, 10, 25, eden), Workers: 1 + d.below(8)*d.below(2),
	}
}

// op tells an operation; some of them are wrong.
func (r *run) op() api.Op {
	d, c := r.d, r.m.c
	thread := d.below(c.Threads)
	if d.below(60) == 0 {
		thread = d.of(-1, c.Threads)
	}
	slot, full, handle := r.slot(thread), r.full(thread), d.below(c.Handles+2)-1
	switch k := d.below(100); {
	case k < 2:
		return push(thread, 1+d.below(5)-d.below(20)/19)
	case k < 3:
		return pop(thread)
	case k < 38:
		return r.alloc(thread, slot)
	case k < 46:
		return load(thread, slot, full, r.field(thread, full, 0))
	case k < 70:
		return store(thread, full, r.field(thread, full, 0), d.of(-1, r.full(thread), r.full(thread), r.slot(thread)))
	case k < 73:
		return get(thread, full, r.field(thread, full, 1))
	case k < 77:
		return put(thread, full, r.field(thread, full, 1), d.word())
	case k < 82:
		return copied(thread, slot, d.of(-1, -2, r.slot(thread), r.full(thread)))
	case k < 84:
		return same(thread, slot, d.of(slot, r.slot(thread), full))
	case k < 86:
		return shape(thread, full)
	case k < 88:
		return opened(thread, slot)
	case k < 90:
		return fetch(thread, slot, handle)
	case k < 92:
		return closing(handle)
	case k < 94:
		return take(thread, slot)
	case k < 97:
		return minor()
	case k < 98:
		return promote()
	}
	return major()
}

// slot tells one of the thread's top frame; seldom none.
func (r *run) slot(thread int) int {
	if r.d.below(40) == 0 {
		return r.d.of(-1, 5, 12)
	}
	return r.d.below(max(1, len(r.top(thread))))
}

// full tells one that holds an object, if it finds one.
func (r *run) full(thread int) int {
	slot := r.slot(thread)
	for range 4 {
		if s, e := r.m.slot(thread, slot); e != api.OK || *s != 0 {
			break
		}
		slot = r.slot(thread)
	}
	return slot
}

func (r *run) top(thread int) []uint64 {
	if !r.m.thread(thread) || len(r.m.frames[thread]) == 0 {
		return nil
	}
	return r.m.frames[thread][len(r.m.frames[thread])-1]
}

// field tells a pointer field (0) or a raw one (1) of a slot's object; seldom none.
func (r *run) field(thread, slot, which int) int {
	s, e := r.m.slot(thread, slot)
	if e != api.OK || *s == 0 {
		return r.d.below(4)
	}
	x := r.m.things[*s]
	fields := []int{len(x.ptrs), len(x.raws)}[which]
	if fields == 0 || r.d.below(15) == 0 {
		return r.d.of(-1, fields)
	}
	return r.d.below(fields)
}

func (r *run) alloc(thread, slot int) api.Op {
	d := r.d
	kind := d.of(1, 1, 1, 1, 2, 3, 3, 4)
	ptrs := d.below(4) + []int{0, 0, 1, 2, 0}[kind]
	raws := d.below(1 + r.n)
	switch d.below(60) {
	case 0:
		kind = d.of(0, 5, -1)
	case 1:
		raws = d.of(-1, 65536, 65535, 60+d.below(200))
	case 2:
		raws = d.below(100)
	case 3:
		ptrs = d.of(-1, 0, 1, 4096)
	}
	return alloc(thread, slot, kind, ptrs, raws, d.below(256)+d.below(50)/49)
}

// runs begins with a frame for each thread.
func runs(t *testing.T, seed int) *run {
	t.Helper()
	d := dice(seed)
	c := d.config()
	r := &run{made(t, c), newModel(c), &d, d.of(1, 3, 10, 25)}
	r.holds(t)
	for thread := range c.Threads {
		r.does(t, push(thread, 2+d.below(3)))
	}
	return r
}

// holds holds the heap to the model.
func (r *run) holds(t *testing.T) {
	t.Helper()
	h, m := r.h, r.m
	want(t, "P14.11: View", h.View(), m.view())
	want(t, "P14.11: Limit", h.Limit(), m.limit())
	want(t, "P14.11: Threshold", h.Threshold(), m.threshold)
	want(t, "P14.11: Fillers", h.Fillers(), m.fillers())
	for _, space := range all {
		var ats []int
		var heads []api.Head
		for at, x := range h.Objects(space) {
			ats, heads = append(ats, at), append(heads, x)
		}
		wantAts, wantHeads := m.objects(space)
		want(t, fmt.Sprint("P14.10, P14.11: where the objects lie in space ", space), ats, wantAts)
		want(t, fmt.Sprint("P14.10, P14.11: the objects of space ", space), heads, wantHeads)
	}
	want(t, "P14.12: Graph(true)", h.Graph(true), m.graph(true))
	want(t, "P14.12: Graph(false)", h.Graph(false), m.graph(false))
	if !h.Check() {
		t.Error("P14.13: Check")
	}
	if h.View().Tenured > h.Limit() {
		t.Errorf("P14.15: %d words are tenured, the limit is %d", h.View().Tenured, h.Limit())
	}
}

// does does an operation to both.
func (r *run) does(t *testing.T, o api.Op) {
	t.Helper()
	kept := r.m.kept()
	got, wanted := ask(r.h, o), r.m.ask(o)
	want(t, fmt.Sprintf("P14.3 to P14.9: %+v", o), got.told(), wanted.told())
	if got.err == api.ErrHeapMemory {
		if kept+2+o.C+o.D <= r.m.c.Tenured {
			t.Errorf("P14.15: %+v fails with %d words of Kept", o, kept)
		}
		if !ran(got.cycles, api.CycleMajor) {
			t.Errorf("P14.15: %+v fails without a major cycle: %v", o, got.cycles)
		}
	}
	r.holds(t)
	if t.Failed() {
		t.Fatalf("behind %+v", o)
	}
}

// TestWhatever holds heaps to the model behind each of many operations.
func TestWhatever(t *testing.T) {
	for seed := range 180 {
		r := runs(t, seed)
		for range 200 {
			r.does(t, r.op())
		}
	}
}

// TestWhateverRestored does the same to heaps that were made of others' graphs, in other configurations.
func TestWhateverRestored(t *testing.T) {
	for seed := range 110 {
		r := runs(t, 1000+seed)
		for range 60 {
			r.does(t, r.op())
		}
		g := r.h.Graph(true)
		words := 0
		for _, o := range g.Objects {
			words += 2 + len(o.Ptrs) + len(o.Raws)
		}
		c, other := r.m.c, r.d.config()
		other.Threads, other.Slots, other.Handles = c.Threads, c.Slots, c.Handles
		other.Tenured = max(64, words+r.d.below(100))
		r.h, r.m = restored(t, other, g), modelOf(other, g)
		want(t, "P14.2: its graph", r.h.Graph(true), g)
		r.holds(t)
		for range 60 {
			r.does(t, r.op())
		}
	}
}
