package lens_test

import (
	"fmt"
	"testing"

	"midden/api"
)

// The words of an object: two, and one for each field, whatever it holds.
func TestWords(t *testing.T) {
	for kind := api.Plain; kind <= api.Final; kind++ {
		for ptrs := fewest[kind]; ptrs < 5; ptrs++ {
			for raws := range 4 {
				g := graphOf([]int{1}, api.Object{Kind: kind, Ptrs: make([]int, ptrs), Raws: make([]uint64, raws)})
				sound(t, g)
				want(t, fmt.Sprintf("P17.1: words of kind %d with %d and %d fields", kind, ptrs, raws), retains(t, g), []int{2 + ptrs + raws})
			}
		}
	}
	g := graphOf([]int{1}, api.Object{Kind: api.Plain, Ptrs: make([]int, api.MaxPtrs), Raws: make([]uint64, api.MaxRaws)})
	want(t, "P17.1: words of the greatest object", retains(t, g), []int{2 + api.MaxPtrs + api.MaxRaws})
}

// What is a root: each place of threads, frames, handles and queue, and the registry isn't.
func TestRoots(t *testing.T) {
	for _, x := range []struct {
		what string
		lay  func(g *api.Graph)
		is   bool
	}{
		{"a slot", func(g *api.Graph) { g.Slots = [][][]int{{{2}}} }, true},
		{"a slot behind others", func(g *api.Graph) { g.Slots = [][][]int{{{0, 0, 2}}} }, true},
		{"a slot of a higher frame", func(g *api.Graph) { g.Slots = [][][]int{{{0}, {0, 2}}} }, true},
		{"a slot of a lower frame", func(g *api.Graph) { g.Slots = [][][]int{{{2}, {0}, {0}}} }, true},
		{"a slot of the last thread", func(g *api.Graph) { g.Slots = [][][]int{{}, {{0}}, {}, {}, {}, {}, {}, {{2}}} }, true},
		{"a handle", func(g *api.Graph) { g.Handles = []int{2} }, true},
		{"a handle behind one that isn't open and one that is null", func(g *api.Graph) { g.Handles = []int{-1, 0, 2} }, true},
		{"the queue", func(g *api.Graph) { g.Queue = []int{2} }, true},
		{"the queue's last", func(g *api.Graph) { g.Queue = []int{3, 2} }, true},
		{"the registry", func(g *api.Graph) {}, false},
	} {
		g := graphOf([]int{0}, object(api.Final, 2, 3), plain(), plain())
		x.lay(&g)
		sound(t, g)
		dominator, path, words := -1, []int{}, 0
		if x.is {
			dominator, path, words = 0, []int{2}, 2
		}
		want(t, "P17.1, P17.4: what only "+x.what+" holds", dominates(t, g)[1], dominator)
		want(t, "P17.1, P17.5: what only "+x.what+" holds", leads(t, g, 2), path)
		want(t, "P17.1, P17.3: what only "+x.what+" holds", retains(t, g)[1], words)
		want(t, "P17.1: a Final object of the registry alone", []int{dominates(t, g)[0], len(leads(t, g, 1)), retains(t, g)[0]}, []int{-1, 0, 0})
	}
}

// Which fields are strong, by kind: field by field.
func TestStrongFields(t *testing.T) {
	for _, x := range []struct {
		kind, field int
		way         bool
	}{
		{api.Plain, 0, true}, {api.Plain, 1, true}, {api.Plain, 3, true},
		{api.Final, 0, true}, {api.Final, 1, true}, {api.Final, 3, true},
		{api.Weak, 0, false}, {api.Weak, 1, true}, {api.Weak, 2, true}, {api.Weak, 3, true},
		{api.Ephemeron, 0, false}, {api.Ephemeron, 1, false}, {api.Ephemeron, 2, true}, {api.Ephemeron, 3, true},
	} {
		o := object(x.kind, 0, 0, 0, 0)
		o.Ptrs[x.field] = 2
		g := graphOf([]int{1}, o, plain())
		sound(t, g)
		dominator, path, words := -1, []int{}, []int{6, 0}
		if x.way {
			dominator, path, words = 1, []int{1, 2}, []int{8, 2}
		}
		what := fmt.Sprintf("field %d of kind %d", x.field, x.kind)
		want(t, "P17.2, P17.4: "+what, dominates(t, g), []int{0, dominator})
		want(t, "P17.2, P17.5: "+what, leads(t, g, 2), path)
		want(t, "P17.1, P17.3: "+what, retains(t, g), words)
	}
}

// An ephemeron's value is in Reach with the key, and yet no way leads there.
func TestValuesAreNoWays(t *testing.T) {
	for _, g := range []api.Graph{
		graphOf([]int{1, 2}, object(api.Ephemeron, 2, 3), plain(), plain(4), plain()),
		graphOf([]int{1}, object(api.Ephemeron, 2, 3, 2), plain(), plain(4), plain()),
		graphOf([]int{2}, object(api.Ephemeron, 2, 3), plain(1), plain(4), plain()),
		graphOf([]int{1, 2}, object(api.Ephemeron, 1, 3), plain(), plain(4), plain()),
	} {
		sound(t, g)
		want(t, "P17.2, P17.4: a value and what it holds", dominates(t, g)[2:], []int{-1, -1})
		want(t, "P17.2, P17.5: a value", leads(t, g, 3), []int{})
		want(t, "P17.2, P17.5: what a value holds", leads(t, g, 4), []int{})
		want(t, "P17.1, P17.3: a value and what it holds", retains(t, g)[2:], []int{5, 2})
	}
}

// A value leads on: a chain of ephemerons, each of whose keys is the value of the one ahead, in any order; a ring of them that nothing opens.
func TestValuesAreKeys(t *testing.T) {
	g := graphOf([]int{1, 2, 3, 4}, object(api.Ephemeron, 6, 7), object(api.Ephemeron, 5, 6), object(api.Ephemeron, 4, 5), plain(), plain(), plain(), plain())
	sound(t, g)
	want(t, "P17.1, P17.3: a chain of ephemerons", retains(t, g), []int{6, 8, 10, 8, 6, 4, 2})
	g.Slots[0][0][3] = 0
	want(t, "P17.1, P17.3: its first key is out of Reach", retains(t, g), []int{4, 4, 4, 0, 0, 0, 0})
	ring := graphOf([]int{1, 2}, object(api.Ephemeron, 3, 4), object(api.Ephemeron, 4, 3), plain(), plain())
	sound(t, ring)
	want(t, "P17.1, P17.3: a ring of ephemerons", retains(t, ring), []int{4, 4, 0, 0})
	own := graphOf([]int{1}, object(api.Ephemeron, 2, 2), plain())
	want(t, "P17.1, P17.3: a value that is its key", retains(t, own), []int{4, 0})
}
