package remset

import "midden/api"

// Store writes a pointer field; the list is told.
func (s *Set) Store(at, i, to int) api.Errno {
	if e := s.fault(at, i, to); e != api.OK {
		return e
	}
	s.arena.SetPtr(at, i, to)
	if s.tenured(at) && s.arena.Young(to) && !s.has(at) {
		s.add(at)
		s.mark(at)
	}
	return api.OK
}

// fault tells the first reason why a store may not be. What the field holds so far is none: it may be no address.
func (s *Set) fault(at, i, to int) api.Errno {
	h, ok := s.arena.Head(at)
	switch {
	case !ok:
		return api.ErrRemObject
	case i < 0 || i >= h.Ptrs:
		return api.ErrRemField
	case to != 0 && !s.stands(to):
		return api.ErrRemTarget
	}
	return api.OK
}

func (s *Set) stands(at int) bool {
	_, ok := s.arena.Head(at)
	return ok
}
