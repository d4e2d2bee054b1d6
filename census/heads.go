package census

import (
	"iter"

	"midden/api"
	"midden/heap"
)

// heads gives the headers of the objects of some spaces that lie behind one another, by address.
func heads(h *heap.Heap, first, last int) iter.Seq[api.Head] {
	return func(yield func(api.Head) bool) {
		for space := first; space <= last; space++ {
			for _, o := range h.Objects(space) {
				if !yield(o) {
					return
				}
			}
		}
	}
}

// all gives those of whatever is there.
func all(h *heap.Heap) iter.Seq[api.Head] { return heads(h, api.SpaceEden, api.SpaceTenured) }

// reached gives those of Reach, without ages, for a heap tells Reach by a graph alone, and that has none.
func reached(h *heap.Heap) iter.Seq[api.Head] {
	return func(yield func(api.Head) bool) {
		for _, o := range h.Graph(false).Objects {
			if !yield(api.Head{Serial: o.Serial, Kind: o.Kind, Ptrs: len(o.Ptrs), Raws: len(o.Raws), Site: o.Site}) {
				return
			}
		}
	}
}

// size tells the words of an object: two of its header, and its fields.
func size(o api.Head) int { return 2 + o.Ptrs + o.Raws }
