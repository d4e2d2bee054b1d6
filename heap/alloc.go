package heap

import "midden/api"

// Alloc makes an object and lays it into a slot.
func (h *Heap) Alloc(thread, slot, kind, ptrs, raws, site int) (r api.Report, e api.Errno) {
	head := api.Head{Serial: h.next, Kind: kind, Ptrs: ptrs, Raws: raws, Site: site}
	words, e := h.asked(thread, slot, head)
	if e != api.OK {
		return r, e
	}
	o, _ := h.begin(api.TurnAlloc, words, func() api.View { return h.viewOf(thread) }) // no size of an object is refused
	defer o.end(&r, &e)
	at, ok := o.lay(thread, head)
	if !ok {
		return r, api.ErrHeapMemory
	}
	// The object lies in its slot, and in the registry, ahead of what the turn may yet run.
	h.roots.Set(thread, slot, at)
	if kind == api.Final {
		h.registry.Add(at)
	}
	h.next++
	return api.Report{Serial: head.Serial}, api.OK
}

// asked tells how many words an allocation asks for, or why it is refused ahead of all cycles.
func (h *Heap) asked(thread, slot int, head api.Head) (int, api.Errno) {
	if _, e := h.roots.Get(thread, slot); e != api.OK {
		return 0, e
	}
	words, e := size(head)
	if e != api.OK {
		return 0, e
	}
	if head.Serial > api.MaxSerial {
		return 0, api.ErrHeapSerial
	}
	return words, api.OK
}

// lay lays an object where the turn says, behind the cycles that come ahead of that; false, if it says nowhere.
func (o *operation) lay(thread int, head api.Head) (int, bool) {
	h := o.heap
	switch o.next() {
	case api.StepEden:
		return h.buffers.Put(h.arena, thread, head)
	case api.StepTenured:
		return h.arena.Put(api.SpaceTenured, head)
	}
	return 0, false
}
