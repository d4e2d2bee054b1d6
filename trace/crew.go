package trace

import (
	"sync"

	"midden/arena"
	"midden/marks"
)

// stint is how many objects a worker goes through before it hands back what it has left: a hand-over costs more than an object does.
const stint = 64

// crew: what the workers of one call share.
type crew struct {
	arena *arena.Arena
	look  func(at int) bool
	work  chan []int    // what a worker is to go through
	left  chan []int    // what it met, and left to others
	done  chan struct{} // closed when all is to end
	once  sync.Once     // for done: several may come to know the answer
	gone  sync.WaitGroup
	lock  sync.Mutex
	seen  *marks.Map // behind the lock: a mark at the address of each object that was met
}

// reach has every object looked at, once, that is reached from the list without going through one that has a mark in seen. Workers look at once. All of them end where look tells that the answer is known.
func reach(a *arena.Arena, seen *marks.Map, from []int, workers int, look func(at int) bool) {
	c := &crew{
		arena: a, look: look, seen: seen,
		// With room for one of each worker nobody ever waits to send.
		work: make(chan []int, workers),
		left: make(chan []int, workers),
		done: make(chan struct{}),
	}
	c.gone.Add(workers)
	for range workers {
		go c.toil()
	}
	c.lead(c.meet(from), workers)
	c.end()
	c.gone.Wait()
}

// lead hands out what is to be gone through, and takes back what is left of it, until nothing is or the answer is known.
func (c *crew) lead(open []int, workers int) {
	idle := workers
	for {
		for len(open) > 0 && idle > 0 {
			n := share(len(open), idle)
			// A worker may append to its piece.
			c.work <- open[:n:n]
			open = open[n:]
			idle--
		}
		if idle == workers {
			return
		}
		select {
		case <-c.done:
			return
		case more := <-c.left:
			open = append(open, more...)
			idle++
		}
	}
}

// share tells how many of the open objects one of the idle workers gets, so that all have some.
func share(open, idle int) int { return min((open+idle-1)/idle, stint) }

func (c *crew) end() { c.once.Do(func() { close(c.done) }) }

func (c *crew) ended() bool {
	select {
	case <-c.done:
		return true
	default:
		return false
	}
}

// toil is what a worker does.
func (c *crew) toil() {
	defer c.gone.Done()
	for {
		select {
		case <-c.done:
			return
		case own := <-c.work:
			c.left <- c.goThrough(own)
		}
	}
}

// goThrough goes through some objects and what they lead to, for a stint: what is left then.
func (c *crew) goThrough(own []int) []int {
	for range stint {
		if len(own) == 0 || c.ended() {
			return nil
		}
		last := len(own) - 1
		at := own[last]
		if c.look(at) {
			c.end()
			return nil
		}
		own = append(own[:last], c.meet(leads(c.arena, at))...)
	}
	return own
}

// meet tells which of these addresses of objects haven't been met before, each once. Null never counts.
func (c *crew) meet(list []int) []int {
	c.lock.Lock()
	defer c.lock.Unlock()
	var fresh []int
	for _, at := range list {
		if at != 0 && !c.seen.Has(at) {
			c.seen.Set(at, 1)
			fresh = append(fresh, at)
		}
	}
	return fresh
}
