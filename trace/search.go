package trace

import (
	"sync"

	"midden/api"
	"midden/arena"
	"midden/marks"
)

// search: what the workers of Seek find out.
type search struct {
	arena *arena.Arena
	want  func(at int, h api.Head) bool
	lock  sync.Mutex // for all that follows
	asked *marks.Map // a mark at the address of each object that want was asked about
	best  int        // the least one that was taken; at first, none, behind the array
	open  int        // no object stands below it that hasn't been asked about
}

func newSearch(a *arena.Arena, want func(at int, h api.Head) bool) *search {
	return &search{arena: a, want: want, asked: unmarked(a), best: words(a)}
}

func (s *search) found() bool { return s.best < s.asked.Words() }

// look asks about an object, and tells whether the answer is known by that.
func (s *search) look(at int) bool {
	h, _ := s.arena.Head(at)
	// want may be slow: the others needn't wait for it.
	taken := s.want(at, h)
	s.lock.Lock()
	defer s.lock.Unlock()
	s.asked.Set(at, 1)
	if taken {
		s.best = min(s.best, at)
	}
	return s.known()
}

// known tells whether no object can come any more that is below the best one.
func (s *search) known() bool {
	if !s.found() {
		return false
	}
	for s.open < s.best && (s.asked.Has(s.open) || !stands(s.arena, s.open)) {
		s.open++
	}
	return s.open == s.best
}
