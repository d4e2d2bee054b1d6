package mutator

import (
	"midden/api"
	"midden/heap"
	"midden/lens"
)

// retained tells the words that go with a slot's object.
func retained(h *heap.Heap, o api.Op) api.Reply {
	g, slot, e := reached(h, o)
	if e != api.OK {
		return api.Reply{Err: e}
	}
	words, _ := lens.Retained(g) // the graph of a heap may be
	return api.Reply{Num: words[*slot-1]}
}

// path tells who holds a slot's object, beside the slot itself.
func path(h *heap.Heap, o api.Op) api.Reply {
	g, slot, e := reached(h, o)
	if e != api.OK {
		return api.Reply{Err: e}
	}
	to := *slot
	*slot = 0
	// If the slot alone knew the object, this graph may not be any more: then it is refused, and there is no path.
	list, _ := lens.Path(g, to)
	return api.Reply{Path: serials(g, list)}
}

// reached tells the graph of Reach, and in it the slot that an operation names, which holds an object.
func reached(h *heap.Heap, o api.Op) (api.Graph, *int, api.Errno) {
	if _, e := h.Shape(o.Thread, o.A); e != api.OK {
		return api.Graph{}, nil, e
	}
	g := h.Graph(false)
	frames := g.Slots[o.Thread]
	return g, &frames[len(frames)-1][o.A], api.OK
}

// serials tells those of objects that are told by their numbers.
func serials(g api.Graph, list []int) []uint64 {
	var told []uint64
	for _, n := range list {
		told = append(told, g.Objects[n-1].Serial)
	}
	return told
}
