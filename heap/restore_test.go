package heap_test

import (
	"fmt"
	"slices"
	"testing"

	"midden/api"
	"midden/heap"
)

// sample is a graph that small has room for: an object of each kind, of 3, 4, 5, 3 and 2 words.
func sample() api.Graph {
	return api.Graph{
		Objects: []api.Object{
			{Serial: 1, Kind: api.Plain, Site: 255, Ptrs: []int{3}},
			{Serial: 4, Kind: api.Weak, Site: 0, Ptrs: []int{4}, Raws: []uint64{1<<64 - 1}},
			{Serial: 5, Kind: api.Ephemeron, Site: 7, Ptrs: []int{2, 5}, Raws: []uint64{9}},
			{Serial: 9, Kind: api.Final, Site: 1, Ptrs: []int{0}},
			{Serial: 30, Kind: api.Final, Site: 2},
		},
		Slots:    [][][]int{{{0, 2}, {1}, {0, 0, 5}}},
		Handles:  []int{-1, 1},
		Registry: []int{4, 5},
		Queue:    []int{3, 1},
		Next:     31,
	}
}

// cloned tells a graph that shares nothing with another.
func cloned(g api.Graph) api.Graph {
	g.Objects = slices.Clone(g.Objects)
	for i, o := range g.Objects {
		g.Objects[i].Ptrs, g.Objects[i].Raws = slices.Clone(o.Ptrs), slices.Clone(o.Raws)
	}
	g.Slots = slices.Clone(g.Slots)
	for i, frames := range g.Slots {
		g.Slots[i] = slices.Clone(frames)
		for j, frame := range frames {
			g.Slots[i][j] = slices.Clone(frame)
		}
	}
	g.Handles, g.Registry, g.Queue = slices.Clone(g.Handles), slices.Clone(g.Registry), slices.Clone(g.Queue)
	return g
}

func TestRestored(t *testing.T) {
	h := restored(t, small(), sample())
	want(t, "P14.2: the graph", h.Graph(true), sample())
	want(t, "P14.2: tenured, in the graph's order, of age 0", lies(h), "[4:1.0 4:4.0 4:5.0 4:9.0 4:30.0]")
	want(t, "P14.2: nobody is remembered", fmt.Sprint(slices.Collect(heads(h))), fmt.Sprint([]api.Head{
		{Serial: 1, Kind: 1, Ptrs: 1, Site: 255}, {Serial: 4, Kind: 2, Ptrs: 1, Raws: 1}, {Serial: 5, Kind: 3, Ptrs: 2, Raws: 1, Site: 7}, {Serial: 9, Kind: 4, Ptrs: 1, Site: 1}, {Serial: 30, Kind: 4, Site: 2},
	}))
	want(t, "P14.2: View", h.View(), api.View{EdenRoom: 64, Tenured: 17, TenuredRoom: 83})
	want(t, "P14.2: the threshold", h.Threshold(), 2)
	want(t, "P14.2: the limit", h.Limit(), 50)
	want(t, "P14.13", h.Check(), true)
	does(t, "P14.2: the top frame", h, shape(0, 2), "head {30 4 0 0 0 2 false}")
	does(t, "P14.2: the queue", h, take(0, 0), "")
	does(t, "P14.2: the queue", h, shape(0, 0), "head {5 3 2 1 0 7 false}")
	does(t, "P14.2: the handle that isn't open", h, opened(0, 0), "")
	does(t, "P14.2: the next serial", h, alloc(0, 1, api.Plain, 0, 0, 0), "serial 31")
	want(t, "P14.2: the from space is A", h.View().Young, 2)
	does(t, "P14.7", h, minor(), "after [1]")
	want(t, "P14.2: the from space was A", lies(h), "[3:31.1 4:1.0 4:4.0 4:5.0 4:9.0 4:30.0]")
}

// heads gives the headers of the tenured space's objects.
func heads(h *heap.Heap) func(yield func(api.Head) bool) {
	return func(yield func(api.Head) bool) {
		for _, x := range h.Objects(api.SpaceTenured) {
			if !yield(x) {
				return
			}
		}
	}
}

// TestRestoredBase: the base is the tenured occupancy, and so no operation but an allocation is above the limit.
func TestRestoredBase(t *testing.T) {
	c := small()
	c.Floor, c.Num, c.Den = 0, 3, 2
	h := restored(t, c, sample())
	want(t, "P14.2: 17 * 3 / 2", h.Limit(), 25)
	does(t, "P14.8", h, copied(0, 0, -1), "")
	does(t, "P14.6: small", h, alloc(0, 0, api.Plain, 0, 6, 0), "serial 31")
	c.Large = 8
	h = restored(t, c, sample())
	does(t, "P14.6: up to the limit", h, alloc(0, 0, api.Plain, 0, 6, 0), "serial 31")
	h = restored(t, c, sample())
	does(t, "P14.6: above the limit", h, alloc(0, 0, api.Plain, 0, 7, 0), "serial 31 after [3]")
}

// TestRestoredEmpty: without objects, frames, handles.
func TestRestoredEmpty(t *testing.T) {
	c := small()
	c.Handles = 0
	h := restored(t, c, api.Graph{Next: 1, Slots: [][][]int{nil}})
	want(t, "P14.2: as New", state(h), state(made(t, c)))
	c.Threads, c.Handles = 8, 1024
	h = restored(t, c, api.Graph{Next: 77, Slots: make([][][]int, 8), Handles: make([]int, 1024)})
	want(t, "P14.2: all handles are open, and null", h.Graph(true).Handles, make([]int, 1024))
	want(t, "P14.2: threads", h.Graph(true).Slots, make([][][]int, 8))
}

// row: what is changed in sample or small, and the error.
type row struct {
	what   string
	change func(c *api.Config, g *api.Graph)
	e      api.Errno
}

func (r row) holds(t *testing.T) {
	t.Helper()
	c, g := small(), sample()
	r.change(&c, &g)
	if h, e := heap.Restore(c, g); e != r.e || (h == nil) != (e != api.OK) {
		t.Errorf("P14.2: %s: error %d, want %d", r.what, e, r.e)
	}
}

// TestRestoreGraphs: P16.1, a row for each of its words, at its edges.
func TestRestoreGraphs(t *testing.T) {
	for _, r := range []row{
		{"as it is", func(_ *api.Config, g *api.Graph) {}, api.OK},
		{"Next 0", func(_ *api.Config, g *api.Graph) { g.Next = 0 }, api.ErrImageGraph},
		{"Next is the last serial", func(_ *api.Config, g *api.Graph) { g.Next = 30 }, api.ErrImageGraph},
		{"Next is MaxSerial + 1", func(_ *api.Config, g *api.Graph) { g.Next = 1<<62 + 1 }, api.OK},
		{"Next is MaxSerial + 2", func(_ *api.Config, g *api.Graph) { g.Next = 1<<62 + 2 }, api.ErrImageGraph},
		{"Next is the greatest word", func(_ *api.Config, g *api.Graph) { g.Next = 1<<64 - 1 }, api.ErrImageGraph},
		{"no object, Next 0", func(_ *api.Config, g *api.Graph) { *g = api.Graph{Slots: [][][]int{nil}, Handles: []int{0, -1}} }, api.ErrImageGraph},
		{"no object, Next 1", func(_ *api.Config, g *api.Graph) {
			*g = api.Graph{Slots: [][][]int{nil}, Handles: []int{0, -1}, Next: 1}
		}, api.OK},
		{"the serial 0", func(_ *api.Config, g *api.Graph) { g.Objects[0].Serial = 0 }, api.ErrImageGraph},
		{"a serial twice", func(_ *api.Config, g *api.Graph) { g.Objects[1].Serial = 1 }, api.ErrImageGraph},
		{"serials that fall", func(_ *api.Config, g *api.Graph) { g.Objects[3].Serial = 3 }, api.ErrImageGraph},
		{"the greatest serial", func(_ *api.Config, g *api.Graph) { g.Objects[4].Serial, g.Next = 1<<62, 1<<62+1 }, api.OK},
		{"a serial above", func(_ *api.Config, g *api.Graph) { g.Objects[4].Serial, g.Next = 1<<62+1, 1<<62+2 }, api.ErrImageGraph},
		{"the greatest word as a serial", func(_ *api.Config, g *api.Graph) { g.Objects[4].Serial = 1<<64 - 1 }, api.ErrImageGraph},
		{"no kind", func(_ *api.Config, g *api.Graph) { g.Objects[0].Kind = 0 }, api.ErrImageGraph},
		{"the kind 5", func(_ *api.Config, g *api.Graph) { g.Objects[0].Kind = 5 }, api.ErrImageGraph},
		{"a weak one without a field", func(_ *api.Config, g *api.Graph) { g.Objects[1].Ptrs = nil }, api.ErrImageGraph},
		{"an ephemeron with one field", func(_ *api.Config, g *api.Graph) { g.Objects[2].Ptrs = []int{2} }, api.ErrImageGraph},
		{"the site -1", func(_ *api.Config, g *api.Graph) { g.Objects[0].Site = -1 }, api.ErrImageGraph},
		{"the site 256", func(_ *api.Config, g *api.Graph) { g.Objects[0].Site = 256 }, api.ErrImageGraph},
		{"4096 pointer fields", func(_ *api.Config, g *api.Graph) { g.Objects[0].Ptrs = make([]int, 4096) }, api.ErrImageGraph},
		{"4095 pointer fields", func(c *api.Config, g *api.Graph) { c.Tenured, g.Objects[0].Ptrs = 65536, make([]int, 4095) }, api.OK},
		{"65536 raw fields", func(_ *api.Config, g *api.Graph) { g.Objects[0].Raws = make([]uint64, 65536) }, api.ErrImageGraph},
		{"a field that holds 6", func(_ *api.Config, g *api.Graph) { g.Objects[3].Ptrs[0] = 6 }, api.ErrImageGraph},
		{"a field that holds 5", func(_ *api.Config, g *api.Graph) { g.Objects[3].Ptrs[0] = 5 }, api.OK},
		{"a field that holds -1", func(_ *api.Config, g *api.Graph) { g.Objects[3].Ptrs[0] = -1 }, api.ErrImageGraph},
		{"a field that holds the least number", func(_ *api.Config, g *api.Graph) { g.Objects[3].Ptrs[0] = least }, api.ErrImageGraph},
		{"no threads", func(_ *api.Config, g *api.Graph) { g.Slots, g.Queue = nil, []int{1, 2, 3} }, api.ErrImageGraph},
		{"9 threads", func(_ *api.Config, g *api.Graph) { g.Slots = append(g.Slots, make([][][]int, 8)...) }, api.ErrImageGraph},
		{"8 threads", func(c *api.Config, g *api.Graph) { c.Threads, g.Slots = 8, append(g.Slots, make([][][]int, 7)...) }, api.OK},
		{"a frame without slots", func(_ *api.Config, g *api.Graph) { g.Slots[0] = append(g.Slots[0], nil) }, api.ErrImageGraph},
		{"4097 slots", func(c *api.Config, g *api.Graph) { c.Slots, g.Slots[0] = 4096, append(g.Slots[0], make([]int, 4091)) }, api.ErrImageGraph},
		{"4096 slots", func(c *api.Config, g *api.Graph) { c.Slots, g.Slots[0] = 4096, append(g.Slots[0], make([]int, 4090)) }, api.OK},
		{"a slot that holds 6", func(_ *api.Config, g *api.Graph) { g.Slots[0][2][0] = 6 }, api.ErrImageGraph},
		{"a slot that holds -1", func(_ *api.Config, g *api.Graph) { g.Slots[0][2][0] = -1 }, api.ErrImageGraph},
		{"1025 handles", func(c *api.Config, g *api.Graph) { c.Handles, g.Handles = 1024, make([]int, 1025) }, api.ErrImageGraph},
		{"1024 handles", func(c *api.Config, g *api.Graph) { c.Handles, g.Handles = 1024, make([]int, 1024) }, api.OK},
		{"a handle that holds 6", func(_ *api.Config, g *api.Graph) { g.Handles[0] = 6 }, api.ErrImageGraph},
		{"a handle that holds -2", func(_ *api.Config, g *api.Graph) { g.Handles[0] = -2 }, api.ErrImageGraph},
		{"a registry without one", func(_ *api.Config, g *api.Graph) { g.Registry = []int{5} }, api.ErrImageGraph},
		{"no registry", func(_ *api.Config, g *api.Graph) { g.Registry = nil }, api.ErrImageGraph},
		{"a registry that falls", func(_ *api.Config, g *api.Graph) { g.Registry = []int{5, 4} }, api.ErrImageGraph},
		{"a registry with one twice", func(_ *api.Config, g *api.Graph) { g.Registry = []int{4, 4, 5} }, api.ErrImageGraph},
		{"a registry with a plain one", func(_ *api.Config, g *api.Graph) { g.Registry = []int{1, 4, 5} }, api.ErrImageGraph},
		{"a registry with null", func(_ *api.Config, g *api.Graph) { g.Registry = []int{0, 4, 5} }, api.ErrImageGraph},
		{"one twice in the queue", func(_ *api.Config, g *api.Graph) { g.Queue = []int{3, 1, 3} }, api.ErrImageGraph},
		{"null in the queue", func(_ *api.Config, g *api.Graph) { g.Queue = []int{3, 0} }, api.ErrImageGraph},
		{"6 in the queue", func(_ *api.Config, g *api.Graph) { g.Queue = []int{6} }, api.ErrImageGraph},
		{"-1 in the queue", func(_ *api.Config, g *api.Graph) { g.Queue = []int{-1} }, api.ErrImageGraph},
		{"a Final one in the queue", func(_ *api.Config, g *api.Graph) { g.Queue = []int{4} }, api.ErrImageGraph},
		{"nobody in the queue", func(_ *api.Config, g *api.Graph) { g.Queue = nil }, api.OK},
	} {
		r.holds(t)
	}
}

// TestRestoreKnown: an object is known by each of its holders alone, by each field of each kind, and along a chain; not by itself.
func TestRestoreKnown(t *testing.T) {
	for _, r := range []row{
		{"a slot of a lower frame", func(_ *api.Config, g *api.Graph) { g.Slots[0][0][0] = 6 }, api.OK},
		{"a handle", func(_ *api.Config, g *api.Graph) { g.Handles[0] = 6 }, api.OK},
		{"the queue", func(_ *api.Config, g *api.Graph) { g.Queue = []int{6} }, api.OK},
		{"the registry", func(_ *api.Config, g *api.Graph) { g.Objects[5].Kind, g.Registry = api.Final, []int{4, 5, 6} }, api.OK},
		{"a plain one's field", func(_ *api.Config, g *api.Graph) { g.Objects[0].Ptrs[0] = 6 }, api.OK},
		{"a weak field", func(_ *api.Config, g *api.Graph) { g.Objects[1].Ptrs[0] = 6 }, api.OK},
		{"a key", func(_ *api.Config, g *api.Graph) { g.Objects[2].Ptrs[0] = 6 }, api.OK},
		{"a value", func(_ *api.Config, g *api.Graph) { g.Objects[2].Ptrs[1] = 6 }, api.OK},
		{"a Final one's field", func(_ *api.Config, g *api.Graph) { g.Objects[3].Ptrs[0] = 6 }, api.OK},
		{"nobody", func(_ *api.Config, g *api.Graph) {}, api.ErrImageGraph},
		{"itself", func(_ *api.Config, g *api.Graph) { g.Objects[5].Ptrs = []int{6} }, api.ErrImageGraph},
		{"another that nobody knows", func(_ *api.Config, g *api.Graph) {
			g.Objects[5].Ptrs = []int{7}
			g.Objects, g.Next = append(g.Objects, api.Object{Serial: 41, Kind: api.Plain, Ptrs: []int{6}}), 50
		}, api.ErrImageGraph},
	} {
		change := r.change
		r.change = func(c *api.Config, g *api.Graph) {
			g.Objects, g.Next = append(g.Objects, api.Object{Serial: 40, Kind: api.Plain}), 50
			change(c, g)
		}
		r.holds(t)
	}
	g := api.Graph{Next: 1001, Slots: [][][]int{{{1000}}}, Handles: []int{-1, -1}}
	for i := range 1000 {
		g.Objects = append(g.Objects, api.Object{Serial: uint64(i + 1), Kind: api.Weak, Ptrs: []int{i}})
	}
	c := small()
	c.Tenured = 3000
	want(t, "P14.2: a chain", restored(t, c, g).Graph(true), g)
}

// TestRestoreRoom: behind the graph's error, at the edges.
func TestRestoreRoom(t *testing.T) {
	for _, r := range []row{
		{"the configuration is told first", func(c *api.Config, g *api.Graph) { c.Eden, g.Next, g.Handles = 63, 0, nil }, api.ErrArenaConfig},
		{"the graph is told next", func(c *api.Config, g *api.Graph) { g.Next, g.Handles, c.Threads = 0, nil, 2 }, api.ErrImageGraph},
		{"100 words", func(c *api.Config, g *api.Graph) { g.Objects[4].Raws = make([]uint64, 83) }, api.OK},
		{"101 words", func(c *api.Config, g *api.Graph) { g.Objects[4].Raws = make([]uint64, 84) }, api.ErrImageRoom},
		{"more than any space", func(c *api.Config, g *api.Graph) { g.Objects[4].Raws = make([]uint64, 65535) }, api.ErrImageRoom},
		{"a thread less", func(c *api.Config, g *api.Graph) { c.Threads = 2 }, api.ErrImageRoom},
		{"a thread more", func(c *api.Config, g *api.Graph) { g.Slots = append(g.Slots, nil) }, api.ErrImageRoom},
		{"6 slots of 6", func(c *api.Config, g *api.Graph) { c.Slots = 6 }, api.OK},
		{"6 slots of 5", func(c *api.Config, g *api.Graph) { c.Slots = 5 }, api.ErrImageRoom},
		{"a second thread's slots", func(c *api.Config, g *api.Graph) {
			c.Threads, c.Slots, g.Slots = 2, 6, append(g.Slots, [][]int{{0, 0, 0}, {0, 0, 0, 0}})
		}, api.ErrImageRoom},
		{"two threads with their slots", func(c *api.Config, g *api.Graph) {
			c.Threads, c.Slots, g.Slots = 2, 6, append(g.Slots, [][]int{{0, 0, 0}, {0, 0, 0}})
		}, api.OK},
		{"a handle less", func(c *api.Config, g *api.Graph) { c.Handles = 3 }, api.ErrImageRoom},
		{"a handle more", func(c *api.Config, g *api.Graph) { c.Handles = 1 }, api.ErrImageRoom},
		{"no handles", func(c *api.Config, g *api.Graph) { c.Handles = 0 }, api.ErrImageRoom},
	} {
		r.holds(t)
	}
}

// TestRestoreKeepsNothing: the graph that was handed in isn't changed, spare room included, and may be written into behind that.
func TestRestoreKeepsNothing(t *testing.T) {
	g := sample()
	g.Queue = append(make([]int, 0, 9), g.Queue...)
	g.Slots[0][0] = append(make([]int, 0, 9), g.Slots[0][0]...)
	g.Handles = append(make([]int, 0, 9), g.Handles...)
	g.Registry = append(make([]int, 0, 9), g.Registry...)
	spare := func() string {
		return fmt.Sprint(g.Queue[:9], g.Slots[0][0][:9], g.Handles[:9], g.Registry[:9])
	}
	was := spare()
	h := restored(t, small(), g)
	is := state(h)
	want(t, "rule 3: it isn't changed", g, sample())
	want(t, "rule 3: nor is its spare room", spare(), was)
	g.Objects[0].Ptrs[0], g.Objects[1].Raws[0] = 0, 5
	g.Slots[0][1][0], g.Handles[1], g.Registry[0], g.Queue[0] = 0, -1, 1, 1
	want(t, "rule 3: it isn't kept", state(h), is)
}
