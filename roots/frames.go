package roots

import (
	"slices"

	"midden/api"
)

// thread: the slots of its frames, the lowest frame's first; so the order of the roots
// is the order in which they stand.
type thread struct {
	sizes []int // of its frames
	slots []int
}

// top: the top frame's slots, in their place; none, if there is no frame.
func (t *thread) top() []int {
	if len(t.sizes) == 0 {
		return nil
	}
	return t.slots[len(t.slots)-t.sizes[len(t.sizes)-1]:]
}

// thread tells the thread of a number; nil, if there is none.
func (r *Roots) thread(number int) *thread {
	if !within(number, 0, len(r.threads)-1) {
		return nil
	}
	return &r.threads[number]
}

// Push makes a frame of n null slots the top one, Pop takes the top one away.
func (r *Roots) Push(thread, n int) api.Errno {
	t := r.thread(thread)
	switch {
	case t == nil:
		return api.ErrRootsThread
	case n < 1:
		return api.ErrRootsSize
	case n > r.slots-len(t.slots): // the sum could overflow
		return api.ErrRootsOverflow
	}
	t.sizes = append(t.sizes, n)
	t.slots = append(t.slots, make([]int, n)...)
	return api.OK
}

func (r *Roots) Pop(thread int) api.Errno {
	t := r.thread(thread)
	switch {
	case t == nil:
		return api.ErrRootsThread
	case len(t.sizes) == 0:
		return api.ErrRootsFrame
	}
	t.slots = t.slots[:len(t.slots)-len(t.top())]
	t.sizes = t.sizes[:len(t.sizes)-1]
	return api.OK
}

// Frames tells a thread's frames' sizes, the lowest first.
func (r *Roots) Frames(thread int) []int {
	t := r.thread(thread)
	if t == nil {
		return nil
	}
	return slices.Clone(t.sizes)
}

// Get tells a slot of the top frame, Set writes it.
func (r *Roots) Get(thread, slot int) (int, api.Errno) {
	top, e := r.frameWith(thread, slot)
	if e != api.OK {
		return 0, e
	}
	return top[slot], api.OK
}

func (r *Roots) Set(thread, slot, at int) api.Errno {
	top, e := r.frameWith(thread, slot)
	if e != api.OK {
		return e
	}
	top[slot] = address(at)
	return api.OK
}

// frameWith tells the slots of a thread's top frame, in their place, if slot is one of them.
func (r *Roots) frameWith(thread, slot int) ([]int, api.Errno) {
	t := r.thread(thread)
	if t == nil {
		return nil, api.ErrRootsThread
	}
	top := t.top()
	switch {
	case len(top) == 0: // a frame has a slot at least
		return nil, api.ErrRootsFrame
	case !within(slot, 0, len(top)-1):
		return nil, api.ErrRootsSlot
	}
	return top, api.OK
}
