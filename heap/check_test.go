package heap

import (
	"testing"

	"midden/api"
)

// sound makes a heap with an object in eden (1), one in the from space (65), and two in the tenured space, of which one holds a young one; each is held by a slot.
func sound(t *testing.T) *Heap {
	t.Helper()
	h, e := New(api.Config{Eden: 64, Survivor: 64, Tenured: 100, Large: 20, Floor: 50, Num: 2, Den: 1, Target: 50, MaxAge: 2, Threads: 1, Slots: 8, Handles: 2, Workers: 1})
	if e != api.OK {
		t.Fatal(e)
	}
	h.Push(0, 4)
	h.Alloc(0, 0, api.Plain, 2, 0, 0)
	h.Cycle(api.CycleMinor)
	h.Cycle(api.CycleMinor)
	h.Alloc(0, 1, api.Final, 2, 0, 0)
	h.Alloc(0, 2, api.Plain, 2, 18, 0)
	h.Alloc(0, 3, api.Plain, 2, 18, 0)
	h.Store(0, 2, 0, 1)
	if !h.Check() {
		t.Fatal("P14.13: Check of a heap in order")
	}
	return h
}

// TestCheckSees: no call of a heap brings it out of order; so each of these is done past them.
func TestCheckSees(t *testing.T) {
	for what, spoil := range map[string]func(h *Heap){
		"a word that is no object":           func(h *Heap) { h.arena.SetWord(1, 0) },
		"words behind the last object":       func(h *Heap) { h.arena.Take(api.SpaceEden, 1) },
		"an object in the to space":          func(h *Heap) { h.arena.Put(api.SpaceB, api.Head{Kind: api.Plain}) },
		"a filler in the to space":           func(h *Heap) { h.arena.Fill(api.SpaceB, 1) },
		"a field of eden that leads nowhere": func(h *Heap) { h.arena.SetPtr(1, 1, 3) },
		"a field of the from space":          func(h *Heap) { h.arena.SetPtr(65, 0, 2) },
		"a tenured field":                    func(h *Heap) { h.arena.SetPtr(215, 1, 200) },
		"a field that is no address":         func(h *Heap) { h.arena.SetWord(3, 1<<50) },
		"a field that leads above a top":     func(h *Heap) { h.arena.SetPtr(1, 0, 40) },
		"a slot":                             func(h *Heap) { h.roots.Set(0, 3, 2) },
		"a handle":                           func(h *Heap) { h.roots.Open(9) },
		"the queue":                          func(h *Heap) { h.roots.Enqueue(292) },
		"the registry":                       func(h *Heap) { h.registry.Update(func(int) int { return 66 }) },
		"a tenured object that is forgotten": func(h *Heap) { h.arena.SetPtr(215, 0, 65) },
		"young objects in the to space":      func(h *Heap) { h.arena.Swap() },
	} {
		h := sound(t)
		spoil(h)
		if h.Check() {
			t.Errorf("P14.13: Check passes over %s", what)
		}
	}
}
