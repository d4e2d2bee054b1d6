package heap

import "midden/api"

// Load lays a pointer field of a slot's object into a slot, Store a slot (-1: null) into a pointer field.
func (h *Heap) Load(thread, dst, src, field int) (r api.Report, e api.Errno) {
	defer h.plain().end(&r, &e)
	if _, e := h.roots.Get(thread, dst); e != api.OK {
		return r, e
	}
	at, e := h.object(thread, src)
	if e != api.OK {
		return r, e
	}
	held, ok := h.arena.Ptr(at, field)
	if !ok {
		return r, api.ErrHeapField
	}
	return r, h.roots.Set(thread, dst, held)
}

func (h *Heap) Store(thread, dst, field, src int) (r api.Report, e api.Errno) {
	defer h.plain().end(&r, &e)
	at, held, e := h.both(thread, dst, src)
	if e != api.OK {
		return r, e
	}
	if at == 0 {
		return r, api.ErrHeapNull
	}
	// Both are objects of the heap, or held is null: nothing else is wrong but the field.
	if h.remembered.Store(at, field, held) != api.OK {
		return r, api.ErrHeapField
	}
	return r, api.OK
}

// Get tells a raw field, Put writes it.
func (h *Heap) Get(thread, src, field int) (uint64, api.Errno) {
	at, e := h.object(thread, src)
	if e != api.OK {
		return 0, e
	}
	w, ok := h.arena.Raw(at, field)
	if !ok {
		return 0, api.ErrHeapField
	}
	return w, api.OK
}

func (h *Heap) Put(thread, dst, field int, w uint64) (r api.Report, e api.Errno) {
	defer h.plain().end(&r, &e)
	at, e := h.object(thread, dst)
	if e != api.OK {
		return r, e
	}
	if !h.arena.SetRaw(at, field, w) {
		return r, api.ErrHeapField
	}
	return r, api.OK
}
