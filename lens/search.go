package lens

import (
	"slices"
	"sync"

	"midden/api"
	"midden/halt"
)

// numbered: an object and its number.
type numbered struct {
	number int
	object api.Object
}

// search: what the workers of one Find share.
type search struct {
	want  func(o api.Object) bool
	done  <-chan struct{} // closed when the search is cancelled; nil, if nobody can cancel it
	work  chan numbered   // the objects, rising
	gone  sync.WaitGroup
	lock  sync.Mutex
	least int // behind the lock: the least number that was taken so far; 0: none
}

func newSearch(c *Cancel, want func(o api.Object) bool) *search {
	s := &search{want: want, work: make(chan numbered)}
	if c != nil {
		s.done = c.wish.Done()
	}
	return s
}

func (s *search) cancelled() bool { return halt.Closed(s.done) }

// run has the workers ask about the objects, and waits until all of them have ended.
func (s *search) run(objects []api.Object, workers int) {
	s.gone.Add(workers)
	for range workers {
		go s.toil()
	}
	s.handOut(objects)
	close(s.work)
	s.gone.Wait()
}

// handOut hands the objects to the workers until one is taken: those below it have been handed out by then, and those above it don't count any more.
func (s *search) handOut(objects []api.Object) {
	for i, o := range objects {
		if s.found() {
			return
		}
		select {
		case <-s.done:
			return
		case s.work <- numbered{i + 1, o}:
		}
	}
}

// toil is what a worker does.
func (s *search) toil() {
	defer s.gone.Done()
	for o := range s.work {
		select {
		case <-s.done:
			return
		default:
			s.ask(o)
		}
	}
}

// ask asks about a copy: want may do with it what it likes.
func (s *search) ask(o numbered) {
	own := o.object
	own.Ptrs, own.Raws = slices.Clone(own.Ptrs), slices.Clone(own.Raws)
	if s.want(own) {
		s.take(o.number)
	}
}

func (s *search) take(n int) {
	s.lock.Lock()
	defer s.lock.Unlock()
	if s.least == 0 || n < s.least {
		s.least = n
	}
}

func (s *search) found() bool {
	s.lock.Lock()
	defer s.lock.Unlock()
	return s.least != 0
}
