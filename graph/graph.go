// Package graph: which graphs may be (doc/16-image.md, P16.1). It is no layer: heap refuses other graphs, and image, which is above heap, tells of them; so it stands below both.
package graph

import (
	"slices"

	"midden/api"
	"midden/cell"
)

// Closed is what a graph tells of a handle that isn't open.
const Closed = -1

// MayBe tells whether a graph may be.
func MayBe(g api.Graph) bool {
	return objectsMayBe(g) && slotsMayBe(g) && handlesMayBe(g) && finalsMayBe(g) && allKnown(g)
}

// Head tells the header of an object, as new.
func Head(o api.Object) api.Head {
	return api.Head{Serial: o.Serial, Kind: o.Kind, Ptrs: len(o.Ptrs), Raws: len(o.Raws), Site: o.Site}
}

// Slots tells how many slots some frames have together.
func Slots(frames [][]int) int {
	slots := 0
	for _, frame := range frames {
		slots += len(frame)
	}
	return slots
}

// Finals tells the numbers of the objects of kind Final: the registry of a graph that has these objects.
func Finals(objects []api.Object) []int {
	var list []int
	for i, o := range objects {
		if o.Kind == api.Final {
			list = append(list, i+1)
		}
	}
	return list
}

func objectsMayBe(g api.Graph) bool {
	ahead := uint64(0)
	for _, o := range g.Objects {
		if _, e := cell.Pack(Head(o)); e != api.OK || o.Serial <= ahead || !allWithin(o.Ptrs, 0, len(g.Objects)) {
			return false
		}
		ahead = o.Serial
	}
	return ahead < g.Next && g.Next <= api.MaxSerial+1
}

func slotsMayBe(g api.Graph) bool {
	for _, frames := range g.Slots {
		if Slots(frames) > api.MaxSlots || !framesMayBe(frames, len(g.Objects)) {
			return false
		}
	}
	return len(g.Slots) >= 1 && len(g.Slots) <= api.MaxThreads
}

func framesMayBe(frames [][]int, objects int) bool {
	for _, frame := range frames {
		if len(frame) < 1 || !allWithin(frame, 0, objects) {
			return false
		}
	}
	return true
}

func handlesMayBe(g api.Graph) bool {
	return len(g.Handles) <= api.MaxHandles && allWithin(g.Handles, Closed, len(g.Objects))
}

// finalsMayBe tells whether the registry is just the Final objects, and the queue some others, each once.
func finalsMayBe(g api.Graph) bool {
	if !slices.Equal(g.Registry, Finals(g.Objects)) || !allWithin(g.Queue, 1, len(g.Objects)) {
		return false
	}
	queued := make([]bool, len(g.Objects)+1)
	for _, n := range g.Queue {
		if queued[n] || g.Objects[n-1].Kind == api.Final {
			return false
		}
		queued[n] = true
	}
	return true
}

// allKnown tells whether every object is known, of a graph in which all numbers are those of objects.
func allKnown(g api.Graph) bool {
	met := make([]bool, len(g.Objects)+1)
	known := 0
	for open := entries(g); len(open) > 0; {
		last := len(open) - 1
		n := open[last]
		open = open[:last]
		// Neither null nor a handle that isn't open holds anything.
		if n > 0 && !met[n] {
			met[n] = true
			known++
			open = append(open, g.Objects[n-1].Ptrs...)
		}
	}
	return known == len(g.Objects)
}

// entries tells what slots, handles, registry and queue hold.
func entries(g api.Graph) []int {
	list := slices.Concat(g.Handles, g.Registry, g.Queue)
	for _, frames := range g.Slots {
		list = append(list, slices.Concat(frames...)...)
	}
	return list
}

func allWithin(list []int, least, most int) bool {
	return !slices.ContainsFunc(list, func(n int) bool { return n < least || n > most })
}
