package heap_test

import (
	"testing"

	"midden/api"
	"midden/heap"
)

func TestNewRefuses(t *testing.T) {
	for i, change := range []func(c *api.Config){
		func(c *api.Config) { *c = api.Config{} },
		func(c *api.Config) { c.Eden = 63 }, func(c *api.Config) { c.Survivor = 63 }, func(c *api.Config) { c.Tenured = 65537 },
		func(c *api.Config) { c.Large = 1 }, func(c *api.Config) { c.Floor = -1 }, func(c *api.Config) { c.Den = 3 }, func(c *api.Config) { c.Num = 65537 },
		func(c *api.Config) { c.Target = 101 }, func(c *api.Config) { c.MaxAge = 16 }, func(c *api.Config) { c.Threads = 9 }, func(c *api.Config) { c.Slots = 4097 },
		func(c *api.Config) { c.Handles = 1025 }, func(c *api.Config) { c.Buffer = 65 }, func(c *api.Config) { c.Workers = 0 }, func(c *api.Config) { c.Workers = 9 },
	} {
		c := small()
		change(&c)
		if h, e := heap.New(c); h != nil || e != api.ErrArenaConfig {
			t.Errorf("P14.1: row %d: a heap: %v, error %d", i, h != nil, e)
		}
	}
}

// TestNewIsEmpty: also of the least and the greatest configuration.
func TestNewIsEmpty(t *testing.T) {
	lowest := api.Config{Eden: 64, Survivor: 64, Tenured: 64, Large: 2, Num: 1, Den: 1, Target: 1, MaxAge: 1, Threads: 1, Slots: 1, Workers: 1}
	highest := api.Config{Eden: 65536, Survivor: 65536, Tenured: 65536, Large: 65536, Floor: 65536, Num: 65536, Den: 65536, Target: 100, MaxAge: 15, Threads: 8, Slots: 4096, Handles: 1024, Buffer: 65536, Workers: 8}
	for _, c := range []api.Config{lowest, small(), highest} {
		h := made(t, c)
		want(t, "P14.1: View", h.View(), api.View{EdenRoom: c.Eden, TenuredRoom: c.Tenured})
		want(t, "P14.1: spaces", lies(h), "[]")
		want(t, "P14.1: Fillers", h.Fillers(), 0)
		want(t, "P14.1: the base is 0", h.Limit(), c.Floor)
		want(t, "P14.1: the threshold", h.Threshold(), c.MaxAge)
		g := api.Graph{Next: 1, Slots: make([][][]int, c.Threads), Handles: make([]int, c.Handles)}
		for i := range g.Handles {
			g.Handles[i] = -1
		}
		want(t, "P14.1: the graph", h.Graph(true), g)
		want(t, "P14.1: Reach", h.Graph(false), g)
		want(t, "P14.13", h.Check(), true)
		does(t, "P14.7: a cycle of nothing", h, minor(), "after [1]")
		does(t, "P14.7: a cycle of nothing", h, promote(), "after [2]")
		does(t, "P14.7: a cycle of nothing", h, major(), "after [3]")
		want(t, "P14.10: nothing comes of it", h.Graph(true), g)
	}
}

// TestTwoHeaps don't touch one another.
func TestTwoHeaps(t *testing.T) {
	h, other := first(t), first(t)
	was := state(other)
	for range 20 {
		h.Alloc(0, 1, api.Final, 1, 8, 5)
	}
	h.Open(0, 0)
	h.Cycle(api.CycleMajor)
	h.Pop(0)
	want(t, "two heaps", state(other), was)
}
