package heap_test

import (
	"fmt"
	"testing"

	"midden/api"
)

// TestGraphOrder: by serials, wherever the objects lie; slots by thread, frame and slot.
func TestGraphOrder(t *testing.T) {
	c := small()
	c.Threads, c.Large = 3, 12
	h := begun(t, c, 2)
	does(t, "P14.3", h, push(2, 1), "")
	does(t, "P14.6", h, alloc(0, 1, api.Plain, 1, 1, 3), "serial 1")
	does(t, "P14.7: young, but not in eden", h, minor(), "after [1]")
	does(t, "P14.6: tenured", h, alloc(2, 0, api.Weak, 1, 10, 4), "serial 2")
	does(t, "P14.3", h, push(0, 3), "")
	does(t, "P14.6: in eden", h, alloc(0, 2, api.Final, 1, 0, 5), "serial 3")
	does(t, "P14.6: in eden", h, alloc(0, 0, api.Plain, 2, 2, 6), "serial 4")
	does(t, "P14.4", h, store(0, 0, 1, 2), "")
	does(t, "P14.4", h, store(0, 0, 0, 0), "")
	does(t, "P14.4", h, put(0, 0, 1, 8), "")
	does(t, "P14.4", h, put(2, 0, 9, 7), "")
	does(t, "P14.5", h, opened(0, 1), "")
	does(t, "P14.5", h, opened(0, 2), "handle 1")
	does(t, "P14.5", h, closing(0), "")
	want(t, "P14.11", lies(h), "[1:3.0 1:4.0 3:1.1 4:2.0]")
	want(t, "P14.12", h.Graph(true), api.Graph{
		Objects: []api.Object{
			{Serial: 1, Kind: api.Plain, Site: 3, Ptrs: []int{0}, Raws: []uint64{0}},
			{Serial: 2, Kind: api.Weak, Site: 4, Ptrs: []int{0}, Raws: []uint64{0, 0, 0, 0, 0, 0, 0, 0, 0, 7}},
			{Serial: 3, Kind: api.Final, Site: 5, Ptrs: []int{0}},
			{Serial: 4, Kind: api.Plain, Site: 6, Ptrs: []int{4, 3}, Raws: []uint64{0, 8}},
		},
		Slots:   [][][]int{{{0, 1}, {4, 0, 3}}, nil, {{2}}},
		Handles: []int{-1, 3}, Registry: []int{3}, Next: 5,
	})
	want(t, "P14.12: all of it is in Reach", h.Graph(false), h.Graph(true))
}

// TestGraphKnownAndReach: what is held by weak fields, keys, values, or the registry alone is Known, and isn't in Reach.
func TestGraphKnownAndReach(t *testing.T) {
	h := begun(t, small(), 8)
	for i, kind := range []int{api.Weak, api.Ephemeron, api.Final, api.Plain, api.Plain, api.Plain, api.Plain} {
		does(t, "P14.6", h, alloc(0, i, kind, 2, 0, 0), fmt.Sprint("serial ", i+1))
	}
	// Weak: field 0 holds 4; the ephemeron: key 5, value 6, which holds 7; the Final one holds 7.
	for _, o := range []api.Op{store(0, 0, 0, 3), store(0, 1, 0, 4), store(0, 1, 1, 5), store(0, 5, 0, 6), store(0, 2, 1, 6)} {
		does(t, "P14.4", h, o, "")
	}
	for slot := 2; slot < 7; slot++ {
		does(t, "P14.3", h, copied(0, slot, -1), "")
	}
	g := h.Graph(true)
	want(t, "P14.12: Known", len(g.Objects), 7)
	want(t, "P14.12: Known", fmt.Sprint(g.Objects[0].Ptrs, g.Objects[1].Ptrs, g.Objects[2].Ptrs, g.Objects[5].Ptrs), "[4 0] [5 6] [0 7] [7 0]")
	want(t, "P14.12: the registry", g.Registry, []int{3})
	g = h.Graph(false)
	want(t, "P14.12: Reach", fmt.Sprint(g.Objects), "[{1 2 0 [0 0] []} {2 3 0 [0 0] []}]")
	want(t, "P14.12: the registry's that are in it", g.Registry, []int{})
	want(t, "P14.12: Next", g.Next, 8)
	// With its key in Reach the ephemeron's value is, and what that holds.
	does(t, "P14.4", h, load(0, 7, 1, 0), "")
	g = h.Graph(false)
	want(t, "P14.12: Reach", fmt.Sprint(g.Objects), "[{1 2 0 [0 0] []} {2 3 0 [3 4] []} {5 1 0 [0 0] []} {6 1 0 [5 0] []} {7 1 0 [0 0] []}]")
	want(t, "P14.12: slots", g.Slots, [][][]int{{{1, 2, 0, 0, 0, 0, 0, 3}}})
	want(t, "P14.12: nothing has changed", len(h.Graph(true).Objects), 7)
}

// TestGraphIsNew: it may be written into, and appended to; no list of it shares memory with another.
func TestGraphIsNew(t *testing.T) {
	h := restored(t, small(), sample())
	is := state(h)
	g, other := h.Graph(true), h.Graph(true)
	spoil := func(l []int) {
		l = append(l, 70)
		for i := range l {
			l[i] = 60
		}
	}
	lists := [][]int{g.Handles, g.Registry, g.Queue, g.Objects[0].Ptrs, g.Objects[1].Ptrs, g.Objects[2].Ptrs, g.Slots[0][0], g.Slots[0][1], g.Slots[0][2]}
	for i := range lists {
		spoil(lists[i])
		for _, l := range lists[i+1:] {
			for _, n := range l {
				if n == 60 || n == 70 {
					t.Fatalf("rule 3: two lists share memory: %v", g)
				}
			}
		}
	}
	g.Objects[1].Raws[0] = 3
	g.Slots[0] = append(g.Slots[0], []int{4})
	g.Slots = append(g.Slots, nil)
	g.Objects = append(g.Objects, api.Object{})
	want(t, "rule 3: another answer", other, sample())
	want(t, "rule 3: the heap", state(h), is)
}
