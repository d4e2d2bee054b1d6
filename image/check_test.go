package image_test

import (
	"slices"
	"testing"

	"midden/api"
	"midden/image"
)

// edit: what is changed in mixed.
type edit struct {
	what   string
	change func(g *api.Graph)
}

// checks holds Check and Write of a graph to whether it may be.
func checks(t *testing.T, what string, g api.Graph, is bool) {
	t.Helper()
	e := image.Check(g)
	b, why := image.Write(g)
	if is {
		want(t, "P16.1: "+what, e, api.OK)
		want(t, "P16.3: "+what, why, api.OK)
		want(t, "P16.2: "+what, b, asked(g))
		reads(t, "P16.6: "+what, b, g)
		return
	}
	want(t, "P16.1: "+what, e, api.ErrImageGraph)
	want(t, "P16.3: "+what, why, api.ErrImageGraph)
	if b != nil {
		t.Errorf("P16.3: %s: bytes beside the error: % x", what, b)
	}
}

// TestMayBe: the edges that lie within.
func TestMayBe(t *testing.T) {
	for _, x := range []edit{
		{"as it is", func(g *api.Graph) {}},
		{"nothing at all", func(g *api.Graph) { *g = empty() }},
		{"the greatest Next without objects", func(g *api.Graph) { *g = empty(); g.Next = maxSerial + 1 }},
		{"the last serial", func(g *api.Graph) { g.Objects[5].Serial = maxSerial }},
		{"the first serial", func(g *api.Graph) { g.Objects[0].Serial = 1 }},
		{"Next right behind the last serial", func(g *api.Graph) { g.Next = g.Objects[5].Serial + 1 }},
		{"serials one behind the other", func(g *api.Graph) {
			for i := range g.Objects {
				g.Objects[i].Serial = uint64(i + 1)
			}
		}},
		{"a weak one with one field", func(g *api.Graph) { g.Objects[1].Ptrs = []int{6} }},
		{"an ephemeron with two fields", func(g *api.Graph) { g.Objects[2].Ptrs = []int{2, 5} }},
		{"a final one without fields", func(g *api.Graph) { g.Objects[3].Ptrs = nil }},
		{"most pointer fields", func(g *api.Graph) { g.Objects[0].Ptrs = make([]int, 4095) }},
		{"most raw fields", func(g *api.Graph) { g.Objects[0].Raws = make([]uint64, 65535) }},
		{"the greatest site", func(g *api.Graph) { g.Objects[5].Site = 255 }},
		{"a field that holds the last object", func(g *api.Graph) { g.Objects[0].Ptrs[1] = 6 }},
		{"most threads", func(g *api.Graph) { g.Slots = append(g.Slots, make([][][]int, 5)...) }},
		{"most slots of one frame", func(g *api.Graph) { g.Slots[1] = [][]int{make([]int, 4096)} }},
		{"most slots of many frames", func(g *api.Graph) { g.Slots[0] = append(g.Slots[0], make([]int, 4000), make([]int, 90)) }},
		{"most slots in each thread", func(g *api.Graph) { g.Slots[1], g.Slots[2] = [][]int{make([]int, 4096)}, [][]int{make([]int, 4096)} }},
		{"no handles", func(g *api.Graph) { g.Handles = nil }},
		{"most handles", func(g *api.Graph) { g.Handles = make([]int, 1024) }},
		{"nobody in the queue", func(g *api.Graph) { g.Queue = nil }},
		{"all but the final ones in the queue", func(g *api.Graph) { g.Queue = []int{6, 3, 2, 1} }},
	} {
		g := mixed()
		x.change(&g)
		checks(t, x.what, g, true)
	}
}

// TestMayNotBe: one past each edge, and numbers of all sizes.
func TestMayNotBe(t *testing.T) {
	for _, x := range []edit{
		{"the zero graph", func(g *api.Graph) { *g = api.Graph{} }},
		{"Next 0, without objects", func(g *api.Graph) { *g = empty(); g.Next = 0 }},
		{"Next above its bound", func(g *api.Graph) { g.Next = maxSerial + 2 }},
		{"the greatest word as Next", func(g *api.Graph) { g.Next = lastWord }},
		{"Next is the last serial", func(g *api.Graph) { g.Next = g.Objects[5].Serial }},
		{"the serial 0", func(g *api.Graph) { g.Objects[0].Serial = 0 }},
		{"a serial twice", func(g *api.Graph) { g.Objects[2].Serial = g.Objects[1].Serial }},
		{"a serial that falls", func(g *api.Graph) { g.Objects[4].Serial = 1 }},
		{"a last serial that falls", func(g *api.Graph) { g.Objects[5].Serial = 1 }},
		{"a serial above its bound", func(g *api.Graph) { g.Objects[5].Serial, g.Next = maxSerial+1, maxSerial+2 }},
		{"the kind 0", func(g *api.Graph) { g.Objects[0].Kind = 0 }},
		{"the kind 5", func(g *api.Graph) { g.Objects[0].Kind = 5 }},
		{"a kind below 0", func(g *api.Graph) { g.Objects[0].Kind = -1 }},
		{"the greatest number as a kind", func(g *api.Graph) { g.Objects[0].Kind = greatest }},
		{"a weak one without fields", func(g *api.Graph) { g.Objects[1].Ptrs = nil }},
		{"an ephemeron with one field", func(g *api.Graph) { g.Objects[2].Ptrs = []int{2} }},
		{"a field more than there may be", func(g *api.Graph) { g.Objects[0].Ptrs = make([]int, 4096) }},
		{"a raw field more than there may be", func(g *api.Graph) { g.Objects[0].Raws = make([]uint64, 65536) }},
		{"the site -1", func(g *api.Graph) { g.Objects[0].Site = -1 }},
		{"the site 256", func(g *api.Graph) { g.Objects[0].Site = 256 }},
		{"no threads", func(g *api.Graph) { g.Slots, g.Handles = nil, []int{1, 2, 5, 6} }},
		{"nine threads", func(g *api.Graph) { g.Slots = append(g.Slots, make([][][]int, 6)...) }},
		{"a frame without slots", func(g *api.Graph) { g.Slots[1] = [][]int{nil} }},
		{"a frame without slots on top", func(g *api.Graph) { g.Slots[0] = append(g.Slots[0], []int{}) }},
		{"a slot more than there may be", func(g *api.Graph) { g.Slots[1] = [][]int{make([]int, 4097)} }},
		{"a slot more in many frames", func(g *api.Graph) { g.Slots[0] = append(g.Slots[0], make([]int, 4000), make([]int, 91)) }},
		{"a handle more than there may be", func(g *api.Graph) { g.Handles = make([]int, 1025) }},
		{"no registry", func(g *api.Graph) { g.Registry = nil }},
		{"a registry that lacks one", func(g *api.Graph) { g.Registry = []int{4} }},
		{"a registry that falls", func(g *api.Graph) { g.Registry = []int{5, 4} }},
		{"a registry with one twice", func(g *api.Graph) { g.Registry = []int{4, 5, 5} }},
		{"a registry with a plain one", func(g *api.Graph) { g.Registry = []int{4, 5, 6} }},
		{"a registry with null", func(g *api.Graph) { g.Registry = []int{0, 4, 5} }},
		{"a registry with what isn't there", func(g *api.Graph) { g.Registry = []int{4, 5, 7} }},
		{"one twice in the queue", func(g *api.Graph) { g.Queue = []int{3, 1, 3} }},
		{"a final one in the queue", func(g *api.Graph) { g.Queue = []int{3, 4} }},
		{"null in the queue", func(g *api.Graph) { g.Queue = []int{0} }},
		{"an object that nobody knows", func(g *api.Graph) {
			g.Objects[5].Serial, g.Objects = 30000, append(g.Objects, api.Object{Serial: 40000, Kind: api.Plain})
		}},
		{"one that only it itself knows", func(g *api.Graph) {
			g.Objects[5].Serial, g.Objects = 30000, append(g.Objects, api.Object{Serial: 40000, Kind: api.Plain, Ptrs: []int{7}})
		}},
	} {
		g := mixed()
		x.change(&g)
		checks(t, x.what, g, false)
	}
}

// TestNumbersOfObjects: in each place in which one stands.
func TestNumbersOfObjects(t *testing.T) {
	for _, x := range []struct {
		what  string
		first int
		lay   func(g *api.Graph, n int)
	}{
		{"a plain one's field", 0, func(g *api.Graph, n int) { g.Objects[0].Ptrs[1] = n }},
		{"a weak field", 0, func(g *api.Graph, n int) { g.Objects[1].Ptrs[0] = n }},
		{"a key", 0, func(g *api.Graph, n int) { g.Objects[2].Ptrs[0] = n }},
		{"a value", 0, func(g *api.Graph, n int) { g.Objects[2].Ptrs[1] = n }},
		{"a final one's field", 0, func(g *api.Graph, n int) { g.Objects[3].Ptrs[0] = n }},
		{"a slot of the lowest frame", 0, func(g *api.Graph, n int) { g.Slots[0][0][0] = n }},
		{"a slot of the top frame", 0, func(g *api.Graph, n int) { g.Slots[0][2][1] = n }},
		{"a handle", -1, func(g *api.Graph, n int) { g.Handles[2] = n }},
		{"the queue", 1, func(g *api.Graph, n int) { g.Queue = []int{n} }},
	} {
		for _, n := range []int{least, least + 1, -1 << 32, -2, -1, 0, 1, 2, 6, 7, 8, 1 << 32, 1<<32 + 1, greatest - 1, greatest} {
			g := mixed()
			x.lay(&g, n)
			checks(t, x.what, g, n >= x.first && n <= 6)
		}
	}
}

// TestHoldersAlone: an object is known by each of its holders alone, along a chain too.
func TestHoldersAlone(t *testing.T) {
	one := func(kind int, ptrs ...int) api.Graph {
		g := api.Graph{Next: 10, Slots: [][][]int{{{0}}}, Handles: []int{-1}}
		g.Objects = []api.Object{{Serial: 1, Kind: api.Plain, Ptrs: []int{0}}, {Serial: 2, Kind: kind, Ptrs: ptrs}}
		return g
	}
	for _, x := range []struct {
		what string
		is   bool
		g    api.Graph
		hold func(g *api.Graph)
	}{
		{"nobody", false, one(api.Plain, 1), func(g *api.Graph) {}},
		{"one another", false, one(api.Plain, 1), func(g *api.Graph) { g.Objects[0].Ptrs[0] = 2 }},
		{"a slot", true, one(api.Plain, 1), func(g *api.Graph) { g.Slots[0][0][0] = 2 }},
		{"a handle", true, one(api.Plain, 1), func(g *api.Graph) { g.Handles[0] = 2 }},
		{"the queue", true, one(api.Plain, 1), func(g *api.Graph) { g.Queue = []int{2} }},
		{"the registry", true, one(api.Final, 1), func(g *api.Graph) { g.Registry = []int{2} }},
		{"a weak field", true, one(api.Weak, 1), func(g *api.Graph) { g.Slots[0][0][0] = 2 }},
		{"a key", true, one(api.Ephemeron, 1, 0), func(g *api.Graph) { g.Slots[0][0][0] = 2 }},
		{"a value whose key is null", true, one(api.Ephemeron, 0, 1), func(g *api.Graph) { g.Slots[0][0][0] = 2 }},
		{"against the way", false, one(api.Plain, 1), func(g *api.Graph) { g.Slots[0][0][0] = 1 }},
	} {
		x.hold(&x.g)
		checks(t, "held by "+x.what, x.g, x.is)
	}
	g := api.Graph{Next: 5001, Slots: [][][]int{{{5000}}}}
	for i := range 5000 {
		g.Objects = append(g.Objects, api.Object{Serial: uint64(i + 1), Kind: api.Weak, Ptrs: []int{i}})
	}
	checks(t, "a chain", g, true)
	g.Objects[2500].Ptrs[0] = 0
	checks(t, "a chain that is cut", g, false)
}

// TestChangedGraphs holds Check to the model, for graphs in which a few numbers are others.
func TestChangedGraphs(t *testing.T) {
	may := 0
	for seed := range 4000 {
		d := dice(seed)
		g := d.graph()
		checks(t, "a graph of the dice", g, true)
		for range 1 + d.below(2) {
			d.change(&g)
		}
		is := mayBe(g)
		if is {
			may++
		}
		checks(t, "a changed graph", g, is)
		if t.Failed() {
			t.Fatalf("seed %d: %+v", seed, g)
		}
	}
	if may < 400 || may > 3600 {
		t.Errorf("%d of 4000 may be: that says little", may)
	}
}

// change makes one thing of a graph another one.
func (d *dice) change(g *api.Graph) {
	n := len(g.Objects)
	lists := []*[]int{&g.Handles, &g.Registry, &g.Queue}
	for i := range g.Objects {
		lists = append(lists, &g.Objects[i].Ptrs)
	}
	for _, frames := range g.Slots {
		for i := range frames {
			lists = append(lists, &frames[i])
		}
	}
	l := lists[d.below(len(lists))]
	switch k := d.below(8); {
	case k < 3 && len(*l) > 0:
		(*l)[d.below(len(*l))] = d.of(-2, -1, 0, n, n+1, d.below(n+1), d.below(n+1))
	case k < 4:
		*l = slices.Insert(*l, d.below(len(*l)+1), d.below(n+1))
	case k < 5 && len(*l) > 0:
		at := d.below(len(*l))
		*l = slices.Delete(*l, at, at+1)
	case k < 6 && n > 0:
		o := &g.Objects[d.below(n)]
		o.Kind, o.Site = d.below(6), d.of(0, 255, 256, o.Site)
	case k < 7 && n > 0:
		g.Objects[d.below(n)].Serial += d.sized() - d.sized()
	default:
		g.Next = []uint64{0, g.Next, maxSerial + 1, maxSerial + 2}[d.below(4)]
	}
}
