package heap

import (
	"midden/api"
	"midden/graph"
)

// Restore makes one that holds a graph, all of it tenured.
func Restore(c api.Config, g api.Graph) (*Heap, api.Errno) {
	h, e := New(c)
	switch {
	case e != api.OK:
		return nil, e
	case !graph.MayBe(g):
		return nil, api.ErrImageGraph
	case !fits(c, g):
		return nil, api.ErrImageRoom
	}
	h.fill(g)
	return h, api.OK
}

// fits tells whether a configuration has room for a graph that may be.
func fits(c api.Config, g api.Graph) bool {
	words := 0
	for _, o := range g.Objects {
		n, _ := size(graph.Head(o))
		words += n
	}
	for _, frames := range g.Slots {
		if graph.Slots(frames) > c.Slots {
			return false
		}
	}
	return words <= c.Tenured && len(g.Slots) == c.Threads && len(g.Handles) == c.Handles
}

// fill lays a graph that fits into an empty heap.
func (p *parts) fill(g api.Graph) {
	at := p.layObjects(g.Objects)
	for thread, frames := range g.Slots {
		p.layFrames(thread, at.ofAll(frames))
	}
	p.layHandles(at.of(g.Handles))
	for _, o := range at.of(g.Registry) {
		p.registry.Add(o)
	}
	for _, o := range at.of(g.Queue) {
		p.roots.Enqueue(o)
	}
	p.base = p.occupied(api.SpaceTenured)
	p.next = g.Next
}

// layObjects lays objects in the tenured space, and tells their addresses by their numbers. Fields are written when all stand; since none is young, nothing is to be remembered.
func (p *parts) layObjects(list []api.Object) translation {
	at := translation{closed: closed}
	for i, o := range list {
		at[i+1], _ = p.arena.Put(api.SpaceTenured, graph.Head(o))
	}
	for i, o := range list {
		for field, to := range at.of(o.Ptrs) {
			p.arena.SetPtr(at[i+1], field, to)
		}
		for field, w := range o.Raws {
			p.arena.SetRaw(at[i+1], field, w)
		}
	}
	return at
}

// layHandles opens all handles, which come by their numbers so, and closes those that aren't to be open.
func (p *parts) layHandles(list []int) {
	for _, at := range list {
		p.roots.Open(at)
	}
	for handle, at := range list {
		if at == closed {
			p.roots.Close(handle)
		}
	}
}
