package heap

import "midden/api"

// noSlot is a slot's number that stands for null where that is allowed.
const noSlot = -1

// Push, Pop: a thread's frames.
func (h *Heap) Push(thread, n int) (r api.Report, e api.Errno) {
	defer h.plain().end(&r, &e)
	return r, h.roots.Push(thread, n)
}

func (h *Heap) Pop(thread int) (r api.Report, e api.Errno) {
	defer h.plain().end(&r, &e)
	return r, h.roots.Pop(thread)
}

// Copy lays a slot (-1: null) into a slot.
func (h *Heap) Copy(thread, dst, src int) (r api.Report, e api.Errno) {
	defer h.plain().end(&r, &e)
	_, at, e := h.both(thread, dst, src)
	if e != api.OK {
		return r, e
	}
	return r, h.roots.Set(thread, dst, at)
}

// Same tells whether two slots hold the same; Shape a slot's object's header (age 0, not held).
func (h *Heap) Same(thread, a, b int) (bool, api.Errno) {
	one, e := h.roots.Get(thread, a)
	if e != api.OK {
		return false, e
	}
	other, e := h.roots.Get(thread, b)
	if e != api.OK {
		return false, e
	}
	return one == other, api.OK
}

func (h *Heap) Shape(thread, slot int) (api.Head, api.Errno) {
	at, e := h.object(thread, slot)
	if e != api.OK {
		return api.Head{}, e
	}
	head, _ := h.arena.Head(at)
	head.Age, head.Held = 0, false
	return head, api.OK
}

// object tells where the object is that a slot holds.
func (h *Heap) object(thread, slot int) (int, api.Errno) {
	at, e := h.roots.Get(thread, slot)
	if e != api.OK {
		return 0, e
	}
	if at == 0 {
		return 0, api.ErrHeapNull
	}
	return at, api.OK
}

// both tells what two slots hold, of which src may be none. That there is a thread and a frame is asked of dst.
func (h *Heap) both(thread, dst, src int) (to, from int, e api.Errno) {
	to, e = h.roots.Get(thread, dst)
	if e != api.OK || src == noSlot {
		return to, 0, e
	}
	from, e = h.roots.Get(thread, src)
	return to, from, e
}
