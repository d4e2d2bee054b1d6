package lens

import (
	"midden/api"
	"midden/bag"
)

// ephemeron: one that has a key and a value, by their numbers.
type ephemeron struct {
	itself, key, value int
}

// web: what leads to what in a graph, by number.
type web struct {
	ways  [][]int
	pairs []ephemeron
	parts [][]ephemeron // by number the ephemerons of which it is the key, or which it is itself
}

// webOf tells the web of a graph that may be.
func webOf(g api.Graph) *web {
	w := &web{ways: waysOf(g), parts: make([][]ephemeron, len(g.Objects)+1)}
	for i, o := range g.Objects {
		if o.Kind == api.Ephemeron && o.Ptrs[0] != 0 && o.Ptrs[1] != 0 {
			w.add(ephemeron{i + 1, o.Ptrs[0], o.Ptrs[1]})
		}
	}
	return w
}

func (w *web) add(e ephemeron) {
	w.pairs = append(w.pairs, e)
	w.parts[e.itself] = append(w.parts[e.itself], e)
	w.parts[e.key] = append(w.parts[e.key], e)
}

// reach tells Reach where all pointers to what is left out are null: by number through whom it was met first (0: it is a root; a value is met through its ephemeron), nobody at what isn't in Reach.
func (w *web) reach(leftOut func(n int) bool) []int {
	by := nobodies(len(w.ways))
	open, _ := bag.NewIntQueue(0)
	meet := func(n, through int) {
		if n != 0 && by[n] == nobody && !leftOut(n) {
			by[n] = through
			open.Put(n)
		}
	}
	for n, ok := 0, true; ok; n, ok = open.Take() {
		for _, to := range w.ways[n] {
			meet(to, n)
		}
		for _, e := range w.parts[n] {
			if e.holds(by) {
				meet(e.value, e.itself)
			}
		}
	}
	return by
}

// holds tells whether an ephemeron holds its value: whether it and its key have been met.
func (e ephemeron) holds(by []int) bool { return by[e.itself] != nobody && by[e.key] != nobody }
