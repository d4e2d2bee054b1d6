package heap

import (
	"iter"
	"slices"

	"midden/api"
	"midden/arena"
	"midden/buffer"
	"midden/cell"
	"midden/marks"
	"midden/remset"
	"midden/roots"
	"midden/tenure"
	"midden/weak"
)

// parts: what a heap is made of.
type parts struct {
	arena      *arena.Arena
	roots      *roots.Roots
	remembered *remset.Set
	registry   *weak.Registry
	tenure     *tenure.Tenure
	buffers    *buffer.Buffers
	base       int    // the tenured words when the last operation that ran a major cycle returned
	next       uint64 // the serial of the next object
}

// newParts makes those of an empty heap. What arena takes of a configuration, the others take too.
func newParts(c api.Config) (parts, api.Errno) {
	a, e := arena.New(c)
	if e != api.OK {
		return parts{}, e
	}
	r, _ := roots.New(c.Threads, c.Slots, c.Handles)
	t, _ := tenure.New(c.Survivor, c.Target, c.MaxAge)
	b, _ := buffer.New(c.Threads, c.Buffer)
	return parts{arena: a, roots: r, remembered: remset.New(a), registry: weak.New(a), tenure: t, buffers: b, next: 1}, api.OK
}

func (p *parts) config() api.Config { return p.arena.Config() }

func (p *parts) occupied(space int) int {
	first, _ := p.arena.Bounds(space)
	return p.arena.Top(space) - first
}

// unmarked tells a map over the array; marks takes every number of words that an arena may have.
func (p *parts) unmarked() *marks.Map {
	_, words := p.arena.Bounds(api.SpaceTenured)
	m, _ := marks.New(words)
	return m
}

// objects gives those of eden, the from space and the tenured space, with their headers.
func (p *parts) objects() iter.Seq2[int, api.Head] {
	return func(yield func(int, api.Head) bool) {
		for _, space := range [...]int{api.SpaceEden, p.arena.From(), api.SpaceTenured} {
			for at, h := range p.arena.Objects(space) {
				if !yield(at, h) {
					return
				}
			}
		}
	}
}

// ptrs tells an object's pointer fields, raws its raw ones.
func (p *parts) ptrs(at int) []int {
	h, _ := p.arena.Head(at)
	return fields(at, h.Ptrs, p.arena.Ptr)
}

func (p *parts) raws(at int) []uint64 {
	h, _ := p.arena.Head(at)
	return fields(at, h.Raws, p.arena.Raw)
}

// fields tells the first fields of an object by what tells one of them.
func fields[T any](at, n int, tell func(at, i int) (T, bool)) []T {
	list := make([]T, n)
	for i := range list {
		list[i], _ = tell(at, i)
	}
	return list
}

// frames tells what the slots of a thread's frames hold, the lowest frame first. Roots tell of a top frame's slots alone: so the frames are taken away one by one, and laid again.
func (p *parts) frames(thread int) [][]int {
	sizes := p.roots.Frames(thread)
	list := make([][]int, len(sizes))
	defer p.layFrames(thread, list)
	for i, slots := range slices.Backward(sizes) {
		list[i] = p.top(thread, slots)
		p.roots.Pop(thread)
	}
	return list
}

// top tells what the slots of a thread's top frame hold, which has so many.
func (p *parts) top(thread, slots int) []int {
	list := make([]int, slots)
	for slot := range list {
		list[slot], _ = p.roots.Get(thread, slot)
	}
	return list
}

// layFrames lays frames, the lowest first, upon those of a thread.
func (p *parts) layFrames(thread int, frames [][]int) {
	for _, slots := range frames {
		p.roots.Push(thread, len(slots))
		for slot, at := range slots {
			p.roots.Set(thread, slot, at)
		}
	}
}

// size tells how many words an object with such a header has; an error, if none may have it.
func size(h api.Head) (int, api.Errno) {
	meta, e := cell.Pack(h)
	return cell.Size(meta), e
}
