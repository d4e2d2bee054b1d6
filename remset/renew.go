package remset

import (
	"slices"

	"midden/api"
)

// Prune keeps those that hold a young pointer, and then those of more that do.
func (s *Set) Prune(more ...int) {
	s.renew(once(slices.Concat(s.list, more)))
}

// Rebuild makes it all tenured objects that hold a young pointer, by address. Where the old list's objects stood there may be other words by now: Held is written at none of them.
func (s *Set) Rebuild() {
	var all []int
	for at := range s.arena.Objects(api.SpaceTenured) {
		all = append(all, at)
	}
	clear(s.in)
	s.renew(all)
}

// renew makes the list those of some addresses, each told once, that are tenured objects which hold a young pointer; all others of them are out of it. Who is in is settled ahead of any Held: where objects overlap, one's header may be another's field.
func (s *Set) renew(named []int) {
	s.list = nil
	for _, at := range named {
		if s.tenured(at) && s.holdsYoung(at) {
			s.add(at)
		} else {
			delete(s.in, at)
		}
	}
	for _, at := range named {
		s.mark(at)
	}
}

// once tells addresses, each where it comes first.
func once(named []int) []int {
	met := map[int]struct{}{}
	var l []int
	for _, at := range named {
		if _, ok := met[at]; !ok {
			met[at] = struct{}{}
			l = append(l, at)
		}
	}
	return l
}

// Missing tells the first tenured object that holds a young pointer and isn't in the list.
func (s *Set) Missing() (int, bool) {
	for at := range s.arena.Objects(api.SpaceTenured) {
		if !s.has(at) && s.holdsYoung(at) {
			return at, true
		}
	}
	return 0, false
}
