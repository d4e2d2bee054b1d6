package lens_test

import (
	"fmt"
	"slices"
	"testing"

	"midden/api"
	"midden/image"
	"midden/lens"
)

const (
	least    = -1 << 63
	greatest = 1<<63 - 1
)

// odd are numbers of no object in any graph here.
var odd = []int{least, least + 1, -1 << 32, -2, -1, 0, 1 << 20, 1 << 32, 1<<32 + 1, 1 << 62, greatest - 1, greatest}

func want(t *testing.T, what string, got, want any) {
	t.Helper()
	if g, w := fmt.Sprint(got), fmt.Sprint(want); g != w {
		t.Errorf("%s: %s, want %s", what, g, w)
	}
}

// object, plain: objects with these pointer fields, without raw ones.
func object(kind int, ptrs ...int) api.Object { return api.Object{Kind: kind, Ptrs: ptrs} }

func plain(ptrs ...int) api.Object { return object(api.Plain, ptrs...) }

// graphOf tells a graph of these objects, with a thread that has one frame of these slots.
func graphOf(slots []int, objects ...api.Object) api.Graph {
	g := api.Graph{Objects: slices.Clone(objects), Slots: [][][]int{{slots}}, Next: uint64(len(objects) + 1)}
	for i, o := range objects {
		g.Objects[i].Serial = uint64(i + 1)
		if o.Kind == api.Final {
			g.Registry = append(g.Registry, i+1)
		}
	}
	return g
}

// sound holds a test's own graph to that it may be.
func sound(t *testing.T, g api.Graph) {
	t.Helper()
	if image.Check(g) != api.OK {
		t.Fatalf("a test's graph may not be: %+v", g)
	}
}

// example is the chapter's graph, held its third example's, where a handle holds 3.
func example() api.Graph {
	return graphOf([]int{1}, plain(2, 3), plain(4), plain(4, 5), plain(), object(api.Ephemeron, 2, 6), plain())
}

func held() api.Graph {
	g := example()
	g.Handles = []int{3}
	return g
}

// mixed has something of everything: all kinds, threads with frames and without, handles of all sorts, a registry, a queue, and objects out of Reach.
func mixed() api.Graph {
	g := graphOf(nil,
		api.Object{Kind: api.Plain, Site: 255, Ptrs: []int{3, 0}, Raws: []uint64{0, 127, 128}},
		api.Object{Kind: api.Weak, Ptrs: []int{4, 7}, Raws: []uint64{1<<64 - 1}},
		api.Object{Kind: api.Ephemeron, Site: 128, Ptrs: []int{2, 5, 1}},
		api.Object{Kind: api.Final, Site: 1, Ptrs: []int{8, 6}},
		api.Object{Kind: api.Final, Ptrs: []int{6}},
		api.Object{Kind: api.Plain, Site: 9, Raws: []uint64{1 << 62, 1 << 63}},
		api.Object{Kind: api.Ephemeron, Ptrs: []int{8, 9}},
		api.Object{Kind: api.Plain},
		api.Object{Kind: api.Plain, Site: 3})
	g.Slots = [][][]int{{{0, 2}, {1}, {0, 0}}, nil, {{6}}}
	g.Handles = []int{-1, 1, 0, 6}
	g.Queue = []int{3, 1}
	return g
}

// retains, dominates, leads: what a call answers, as one thing, of a graph that may be.
func retains(t *testing.T, g api.Graph) []int {
	t.Helper()
	return answered(t, "Retained", func() ([]int, api.Errno) { return lens.Retained(g) })
}

func dominates(t *testing.T, g api.Graph) []int {
	t.Helper()
	return answered(t, "Dominators", func() ([]int, api.Errno) { return lens.Dominators(g) })
}

func leads(t *testing.T, g api.Graph, to int) []int {
	t.Helper()
	return answered(t, "Path", func() ([]int, api.Errno) { return lens.Path(g, to) })
}

func answered(t *testing.T, what string, call func() ([]int, api.Errno)) []int {
	t.Helper()
	list, e := call()
	if e != api.OK {
		t.Errorf("%s: error %d of a graph that may be", what, e)
	}
	return list
}

// dice: numbers that look like chance and are the same at every run.
type dice uint64

func (d *dice) word() uint64 {
	*d += 0x9e3779b97f4a7c15
	x := uint64(*d)
	x = (x ^ x>>30) * 0xbf58476d1ce4e5b9
	x = (x ^ x>>27) * 0x94d049bb133111eb
	return x ^ x>>31
}

func (d *dice) below(n int) int { return int(d.word() % uint64(n)) }

func (d *dice) of(list ...int) int { return list[d.below(len(list))] }

// some tells a list of up to most numbers below a bound.
func (d *dice) some(most, bound int) []int {
	l := make([]int, d.below(most+1))
	for i := range l {
		l[i] = d.below(bound)
	}
	return l
}

// fewest tells how many pointer fields a kind needs.
var fewest = map[int]int{api.Plain: 0, api.Weak: 1, api.Ephemeron: 2, api.Final: 0}

// graph tells a graph that may be, of n objects of these kinds and maybe one more: what nobody knows a slot holds, or a Final object that nobody else knows.
func (d *dice) graph(n, fields int, kinds ...int) api.Graph {
	var objects []api.Object
	for range n {
		kind := d.of(kinds...)
		o := api.Object{Kind: kind, Site: d.below(4), Raws: make([]uint64, d.below(4))}
		for range fewest[kind] + d.below(fields+1) {
			o.Ptrs = append(o.Ptrs, d.below(n+1))
		}
		objects = append(objects, o)
	}
	slots, keeper := d.some(3, n+1), object(api.Final)
	handles := d.some(2, n+1)
	var queue []int
	for i, o := range objects {
		if o.Kind != api.Final && d.below(2*n) == 0 {
			queue = append(queue, i+1)
		}
	}
	held := slices.Concat(slots, handles, queue)
	for i, is := range known(objects, held) {
		if is {
			continue
		}
		if d.below(4) == 0 && len(slots) < 1000 {
			slots = append(slots, i+1)
		} else {
			keeper.Ptrs = append(keeper.Ptrs, i+1)
		}
	}
	if len(keeper.Ptrs) > 0 {
		objects = append(objects, keeper)
	}
	g := graphOf(append(slots, 0), objects...)
	g.Handles, g.Queue = append(handles, -1), queue
	return g
}

// known tells by object whether it is known, if these are held.
func known(objects []api.Object, open []int) []bool {
	is := make([]bool, len(objects))
	open = slices.Clone(open)
	for i, o := range objects {
		if o.Kind == api.Final {
			open = append(open, i+1)
		}
	}
	for len(open) > 0 {
		n := open[0]
		open = open[1:]
		if n > 0 && !is[n-1] {
			is[n-1] = true
			open = append(open, objects[n-1].Ptrs...)
		}
	}
	return is
}
