package heap

import "midden/api"

// Open makes a handle of a slot, Fetch lays a handle into a slot, Close closes it.
func (h *Heap) Open(thread, slot int) (handle int, r api.Report, e api.Errno) {
	defer h.plain().end(&r, &e)
	at, e := h.roots.Get(thread, slot)
	if e != api.OK {
		return 0, r, e
	}
	handle, e = h.roots.Open(at)
	return handle, r, e
}

func (h *Heap) Fetch(thread, dst, handle int) (r api.Report, e api.Errno) {
	defer h.plain().end(&r, &e)
	if _, e := h.roots.Get(thread, dst); e != api.OK {
		return r, e
	}
	at, e := h.roots.Handle(handle)
	if e != api.OK {
		return r, e
	}
	return r, h.roots.Set(thread, dst, at)
}

func (h *Heap) Close(handle int) (r api.Report, e api.Errno) {
	defer h.plain().end(&r, &e)
	return r, h.roots.Close(handle)
}

// Take lays the queue's head into a slot.
func (h *Heap) Take(thread, dst int) (r api.Report, e api.Errno) {
	defer h.plain().end(&r, &e)
	// Asked ahead of the taking: what is taken out needs its slot.
	if _, e := h.roots.Get(thread, dst); e != api.OK {
		return r, e
	}
	at, ok := h.roots.Dequeue()
	if !ok {
		return r, api.ErrHeapEmpty
	}
	return r, h.roots.Set(thread, dst, at)
}
