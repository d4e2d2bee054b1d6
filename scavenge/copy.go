package scavenge

import (
	"midden/api"
	"midden/arena"
	"midden/bag"
	"midden/cell"
)

// fate: what becomes of an object that is visited.
type fate int

const (
	stays  fate = iota // young, in the to space
	rises              // promoted: it is old enough, or the cycle promotes all
	spills             // promoted for want of room alone
)

// headWords are what an object has ahead of its fields.
const headWords = 2

// copier: what a cycle knows while it runs.
type copier struct {
	arena     *arena.Arena
	threshold int
	all       bool
	young     *bag.Queue[int] // copies in the to space that wait to be gone through
	old       *bag.Queue[int] // copies in the tenured space that do
	promoted  []int           // all copies in the tenured space
	done      api.Minor
}

func newCopier(a *arena.Arena, threshold int, all bool) *copier {
	return &copier{arena: a, threshold: threshold, all: all, young: worklist[int](), old: worklist[int]()}
}

// worklist tells a queue without a bound; bag doesn't refuse that.
func worklist[T any]() *bag.Queue[T] {
	list, _ := bag.NewQueue[T](0)
	return list
}

// visit copies the young object that stands at an address, and tells where the copy is. Where none stands, or where objects overlap and come to more words than there is room for, the pointer stays what it is.
func (c *copier) visit(at int) int {
	h, ok := c.arena.Head(at)
	if !ok {
		return at
	}
	words := cell.Size(c.arena.Word(at))
	what := c.fate(h.Age, words)
	h.Age = min(h.Age+1, api.MaxAge)
	h.Held = false
	to, ok := c.arena.Put(c.space(what), h)
	if !ok {
		return at
	}
	for i := headWords; i < words; i++ {
		c.arena.SetWord(to+i, c.arena.Word(at+i))
	}
	c.arena.SetWord(at, cell.Forward(to))
	c.note(what, to, h.Age, words)
	return to
}

func (c *copier) fate(age, words int) fate {
	switch {
	case c.all || age+1 > c.threshold:
		return rises
	case words > c.arena.Free(c.arena.To()):
		return spills
	}
	return stays
}

func (c *copier) space(what fate) int {
	if what == stays {
		return c.arena.To()
	}
	return api.SpaceTenured
}

// note writes down that there is a copy, and that it waits to be gone through.
func (c *copier) note(what fate, to, age, words int) {
	switch what {
	case stays:
		c.done.Copied++
		c.done.Words[age] += words
		c.young.Put(to)
		return
	case spills:
		c.done.Overflow++
	}
	c.done.Promoted++
	c.promoted = append(c.promoted, to)
	c.old.Put(to)
}

// goOn goes through the copies until none waits.
func (c *copier) goOn(meet meeter) {
	for at, ok := c.next(); ok; at, ok = c.next() {
		goThrough(c.arena, at, meet)
	}
}

// next takes a promoted copy only where no young one waits.
func (c *copier) next() (int, bool) {
	if at, ok := c.young.Take(); ok {
		return at, true
	}
	return c.old.Take()
}
