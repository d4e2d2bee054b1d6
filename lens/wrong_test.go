package lens_test

import (
	"fmt"
	"testing"

	"midden/api"
	"midden/image"
	"midden/lens"
)

// spoilt: a graph that may not be, and why.
type spoilt struct {
	what string
	g    api.Graph
}

// wrong tells graphs that may not be, at least one for each thing that P16.1 asks for.
func wrong() []spoilt {
	var list []spoilt
	for _, x := range []struct {
		what  string
		spoil func(g *api.Graph)
	}{
		{"the zero graph", func(g *api.Graph) { *g = api.Graph{} }},
		{"Next 0", func(g *api.Graph) { g.Next = 0 }},
		{"Next above its bound", func(g *api.Graph) { g.Next = api.MaxSerial + 2 }},
		{"Next is the last serial", func(g *api.Graph) { g.Next-- }},
		{"the serial 0", func(g *api.Graph) { g.Objects[0].Serial = 0 }},
		{"a serial twice", func(g *api.Graph) { g.Objects[2].Serial = g.Objects[1].Serial }},
		{"no kind", func(g *api.Graph) { g.Objects[0].Kind = api.KindNone }},
		{"a kind above the last", func(g *api.Graph) { g.Objects[0].Kind = 5 }},
		{"a weak object without fields", func(g *api.Graph) { g.Objects[1].Ptrs = nil }},
		{"an ephemeron without fields", func(g *api.Graph) { g.Objects[2].Ptrs = nil }},
		{"an ephemeron with one field", func(g *api.Graph) { g.Objects[2].Ptrs = []int{2} }},
		{"too many pointer fields", func(g *api.Graph) { g.Objects[0].Ptrs = make([]int, api.MaxPtrs+1) }},
		{"too many raw fields", func(g *api.Graph) { g.Objects[0].Raws = make([]uint64, api.MaxRaws+1) }},
		{"a site above the last", func(g *api.Graph) { g.Objects[0].Site = 256 }},
		{"a site below 0", func(g *api.Graph) { g.Objects[0].Site = -1 }},
		{"a field above the objects", func(g *api.Graph) { g.Objects[0].Ptrs[1] = 10 }},
		{"a field below 0", func(g *api.Graph) { g.Objects[0].Ptrs[1] = -1 }},
		{"a key above the objects", func(g *api.Graph) { g.Objects[2].Ptrs[0] = greatest }},
		{"a value below 0", func(g *api.Graph) { g.Objects[2].Ptrs[1] = least }},
		{"no thread", func(g *api.Graph) { g.Slots, g.Handles = nil, []int{1, 2, 6} }},
		{"too many threads", func(g *api.Graph) { g.Slots = append(g.Slots, make([][][]int, 6)...) }},
		{"a frame without slots", func(g *api.Graph) { g.Slots[0] = append(g.Slots[0], nil) }},
		{"too many slots", func(g *api.Graph) { g.Slots[1] = [][]int{make([]int, 4000), make([]int, 97)} }},
		{"a slot above the objects", func(g *api.Graph) { g.Slots[0][0][0] = 10 }},
		{"a slot below 0", func(g *api.Graph) { g.Slots[0][0][0] = -1 }},
		{"too many handles", func(g *api.Graph) { g.Handles = make([]int, api.MaxHandles+1) }},
		{"a handle above the objects", func(g *api.Graph) { g.Handles[0] = 10 }},
		{"a handle below -1", func(g *api.Graph) { g.Handles[0] = -2 }},
		{"a registry without a final object", func(g *api.Graph) { g.Registry = g.Registry[:1] }},
		{"a registry with a plain object", func(g *api.Graph) { g.Registry = []int{4, 5, 6} }},
		{"a registry that falls", func(g *api.Graph) { g.Registry = []int{5, 4} }},
		{"a registry with a number of no object", func(g *api.Graph) { g.Registry = []int{4, 5, 10} }},
		{"null in the queue", func(g *api.Graph) { g.Queue[0] = 0 }},
		{"a number of no object in the queue", func(g *api.Graph) { g.Queue[0] = 10 }},
		{"one twice in the queue", func(g *api.Graph) { g.Queue[0] = g.Queue[1] }},
		{"a final object in the queue", func(g *api.Graph) { g.Queue[0] = 4 }},
		{"an object that nobody knows", func(g *api.Graph) { g.Objects[6].Ptrs[1] = 0 }},
	} {
		g := mixed()
		x.spoil(&g)
		list = append(list, spoilt{x.what, g})
	}
	return list
}

// refused holds the calls that look at the graph to ErrLensGraph, ahead of a number of no object.
func refused(t *testing.T, what string, g api.Graph) {
	t.Helper()
	is := fmt.Sprint([]int{}, api.ErrLensGraph)
	list, e := lens.Retained(g)
	want(t, "P17.3: "+what, fmt.Sprint(list, e), is)
	list, e = lens.Dominators(g)
	want(t, "P17.4: "+what, fmt.Sprint(list, e), is)
	for _, to := range append([]int{1, 2, len(g.Objects), len(g.Objects) + 1}, odd...) {
		list, e = lens.Path(g, to)
		want(t, fmt.Sprint("P17.5: ", what, ", to ", to), fmt.Sprint(list, e), is)
	}
}

func TestGraphsThatMayNotBe(t *testing.T) {
	sound(t, mixed())
	for _, x := range wrong() {
		if image.Check(x.g) == api.OK {
			t.Errorf("a test's graph may be: %s", x.what)
		}
		refused(t, x.what, x.g)
	}
}

// Numbers that are changed by chance: a graph is refused just where image.Check refuses it.
func TestSpoiltGraphs(t *testing.T) {
	taken := 0
	for seed := range 3000 {
		d := dice(30000 + seed)
		g := d.graph(1+d.below(5), 2, kinds[3]...)
		number := d.of(least, -2, -1, 0, 1, 2, len(g.Objects), len(g.Objects)+1, greatest)
		o := &g.Objects[d.below(len(g.Objects))]
		switch d.below(6) {
		case 0:
			o.Kind = number
		case 1:
			o.Ptrs = append(o.Ptrs, number)
		case 2:
			o.Ptrs = o.Ptrs[:d.below(len(o.Ptrs)+1)]
		case 3:
			g.Slots[0][0][0] = number
		case 4:
			g.Handles[0] = number
		case 5:
			g.Queue = append(g.Queue, number)
		}
		if image.Check(g) != api.OK {
			refused(t, "spoilt", g)
			continue
		}
		taken++
		want(t, "P17.3: Retained", retains(t, g), retained(g))
	}
	if taken == 0 || taken == 3000 {
		t.Errorf("the dice spoil all graphs or none: %d are taken", taken)
	}
}
