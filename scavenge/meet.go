package scavenge

import (
	"midden/arena"
	"midden/cell"
)

// meeter is handed a pointer that is met, and tells where it leads from then on.
type meeter func(at int) int

// meeting tells the meeter of a cycle. An object that was visited has in its header's place where its copy is.
func (c *copier) meeting() meeter {
	return func(at int) int {
		if !c.arena.Young(at) {
			return at
		}
		if to, ok := cell.Forwarded(c.arena.Word(at)); ok {
			return to
		}
		return c.visit(at)
	}
}

// met tells where a list's pointers lead when all have been met.
func met(list []int, meet meeter) []int {
	var now []int
	for _, at := range list {
		now = append(now, meet(at))
	}
	return now
}

// goThrough meets an object's pointer fields. It writes past the remembered list, which is pruned at the cycle's end alone.
func goThrough(a *arena.Arena, at int, meet meeter) {
	h, _ := a.Head(at)
	for i := range h.Ptrs {
		if to, ok := a.Ptr(at, i); ok {
			a.SetPtr(at, i, meet(to))
		}
	}
}
