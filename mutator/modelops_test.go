package mutator_test

import (
	"slices"

	"midden/api"
)

// follow does an operation to the model. Which cycles are run, and whether an allocation finds room, the model can't tell: it takes that from the reply. tenured is what the census listed as tenured ahead of the operation. What it answers is the reply that is to be, but for Census, Audit, Sites and Bytes.
func (m *model) follow(o api.Op, r api.Reply, tenured []uint64) api.Reply {
	switch o.Kind {
	case api.OpMinor, api.OpAll, api.OpMajor:
		m.cycles(r.Cycles, tenured)
		return cycled(r.Cycles...)
	case api.OpCensus, api.OpAudit, api.OpSites, api.OpDump:
		return api.Reply{}
	case api.OpPush:
		return refused(m.push(o.Thread, o.A))
	case api.OpPop:
		return refused(m.pop(o.Thread))
	case api.OpClose:
		return refused(m.close(o.A))
	}
	if !slices.Contains(withSlots, o.Kind) {
		return refused(api.ErrMutOp)
	}
	slot, e := m.slot(o.Thread, o.A)
	if e != api.OK {
		return refused(e)
	}
	switch o.Kind {
	case api.OpAlloc:
		return m.alloc(slot, o, r, tenured)
	case api.OpLoad, api.OpStore, api.OpCopy, api.OpSame:
		return m.two(slot, o)
	case api.OpClear:
		*slot = 0
	case api.OpOpen:
		return m.open(*slot)
	case api.OpFetch:
		if !m.isOpen(o.B) {
			return refused(api.ErrRootsHandle)
		}
		*slot = m.handles[o.B].serial
	case api.OpTake:
		if len(m.queue) == 0 {
			return refused(api.ErrHeapEmpty)
		}
		*slot, m.queue = m.queue[0], m.queue[1:]
	default:
		return m.object(slot, o)
	}
	return api.Reply{}
}

// withSlots: the kinds that name a slot.
var withSlots = []int{api.OpAlloc, api.OpLoad, api.OpStore, api.OpGet, api.OpPut, api.OpCopy, api.OpClear, api.OpSame, api.OpHash, api.OpShape, api.OpOpen, api.OpFetch, api.OpTake, api.OpRetained, api.OpPath}

// cycles does cycles to the model. Behind a major one a minor one takes nothing away.
func (m *model) cycles(cycles []int, tenured []uint64) {
	for i, cycle := range cycles {
		if cycle == api.CycleMajor {
			m.major()
		} else if i == 0 {
			m.minor(tenured)
		}
	}
}

// alloc: a major cycle that comes first is ahead of the laying, one behind another cycle at the operation's end (P20.1).
func (m *model) alloc(slot *uint64, o api.Op, r api.Reply, tenured []uint64) api.Reply {
	if e := packed(o); e != api.OK {
		return refused(e)
	}
	if m.next > api.MaxSerial {
		return refused(api.ErrHeapSerial)
	}
	ahead, behind := r.Cycles, []int(nil)
	if n := len(ahead); n > 1 && ahead[n-1] == api.CycleMajor {
		ahead, behind = ahead[:n-1], ahead[n-1:]
	}
	m.cycles(ahead, tenured)
	if r.Err == api.ErrHeapMemory {
		m.cycles(behind, nil)
		return api.Reply{Err: api.ErrHeapMemory, Cycles: r.Cycles}
	}
	serial := m.next
	m.things[serial] = &thing{o.B, o.E, make([]uint64, o.C), make([]uint64, o.D)}
	if o.B == api.Final {
		m.registry = append(m.registry, serial)
	}
	*slot, m.next = serial, serial+1
	m.cycles(behind, nil)
	return api.Reply{Word: serial, Cycles: r.Cycles}
}

// packed: P2.2.
func packed(o api.Op) api.Errno {
	switch {
	case o.B < 1 || o.B > 4 || o.B == api.Weak && o.C < 1 || o.B == api.Ephemeron && o.C < 2:
		return api.ErrCellKind
	case o.C < 0 || o.C > 4095:
		return api.ErrCellPtrs
	case o.D < 0 || o.D > 65535:
		return api.ErrCellRaws
	case o.E < 0 || o.E > 255:
		return api.ErrCellSite
	}
	return api.OK
}

// two does what names a second slot.
func (m *model) two(slot *uint64, o api.Op) api.Reply {
	second := o.B
	if o.Kind == api.OpStore {
		second = o.C
	}
	var held uint64
	if second != -1 || o.Kind == api.OpLoad || o.Kind == api.OpSame {
		other, e := m.slot(o.Thread, second)
		if e != api.OK {
			return refused(e)
		}
		held = *other
	}
	switch o.Kind {
	case api.OpCopy:
		*slot = held
	case api.OpSame:
		return api.Reply{Yes: *slot == held}
	case api.OpLoad:
		field, e := m.pointer(held, o.C)
		if e != api.OK {
			return refused(e)
		}
		*slot = *field
	case api.OpStore:
		field, e := m.pointer(*slot, o.B)
		if e != api.OK {
			return refused(e)
		}
		*field = held
	}
	return api.Reply{}
}

// object does what asks of a slot's object.
func (m *model) object(slot *uint64, o api.Op) api.Reply {
	if *slot == 0 {
		return refused(api.ErrHeapNull)
	}
	x := m.things[*slot]
	switch o.Kind {
	case api.OpHash:
		return word(*slot)
	case api.OpShape:
		return api.Reply{Nums: []int{x.kind, len(x.ptrs), len(x.raws), x.site}}
	case api.OpRetained:
		return number(m.words(m.reach(0)) - m.words(m.reach(*slot)))
	case api.OpPath:
		return api.Reply{Path: m.path(slot)}
	}
	if o.B < 0 || o.B >= len(x.raws) {
		return refused(api.ErrHeapField)
	}
	if o.Kind == api.OpPut {
		x.raws[o.B] = o.Word
		return api.Reply{}
	}
	return word(x.raws[o.B])
}

func (m *model) pointer(s uint64, i int) (*uint64, api.Errno) {
	if s == 0 {
		return nil, api.ErrHeapNull
	}
	if ptrs := m.things[s].ptrs; i >= 0 && i < len(ptrs) {
		return &ptrs[i], api.OK
	}
	return nil, api.ErrHeapField
}

func (m *model) thread(n int) bool { return n >= 0 && n < m.c.Threads }

func (m *model) slot(thread, slot int) (*uint64, api.Errno) {
	if !m.thread(thread) {
		return nil, api.ErrRootsThread
	}
	frames := m.frames[thread]
	if len(frames) == 0 {
		return nil, api.ErrRootsFrame
	}
	top := frames[len(frames)-1]
	if slot < 0 || slot >= len(top) {
		return nil, api.ErrRootsSlot
	}
	return &top[slot], api.OK
}

func (m *model) push(thread, n int) api.Errno {
	if !m.thread(thread) {
		return api.ErrRootsThread
	}
	if n < 1 {
		return api.ErrRootsSize
	}
	if n > m.c.Slots-len(slices.Concat(m.frames[thread]...)) {
		return api.ErrRootsOverflow
	}
	m.frames[thread] = append(m.frames[thread], make([]uint64, n))
	return api.OK
}

func (m *model) pop(thread int) api.Errno {
	if !m.thread(thread) {
		return api.ErrRootsThread
	}
	last := len(m.frames[thread]) - 1
	if last < 0 {
		return api.ErrRootsFrame
	}
	m.frames[thread] = m.frames[thread][:last]
	return api.OK
}

func (m *model) open(s uint64) api.Reply {
	n := slices.Index(m.handles, handle{})
	if n < 0 {
		return refused(api.ErrRootsHandles)
	}
	m.handles[n] = handle{true, s}
	return number(n)
}

func (m *model) isOpen(n int) bool { return n >= 0 && n < len(m.handles) && m.handles[n].open }

func (m *model) close(n int) api.Errno {
	if !m.isOpen(n) {
		return api.ErrRootsHandle
	}
	m.handles[n] = handle{}
	return api.OK
}
