package heap_test

import (
	"slices"

	"midden/api"
	"midden/cell"
)

// ask does an operation to the model, with the rule of the end.
func (m *model) ask(o api.Op) answer {
	m.cycles = nil
	limit := m.limit()
	x := m.do(o, limit)
	question := o.Kind == api.OpGet || o.Kind == api.OpSame || o.Kind == api.OpShape
	if !question && (x.err == api.OK || x.err == api.ErrHeapMemory) {
		if m.words(m.tenured) > limit && !ran(m.cycles, api.CycleMajor) {
			m.major()
		}
		if ran(m.cycles, api.CycleMajor) {
			m.base = m.words(m.tenured)
		}
	}
	x.cycles = m.cycles
	return x
}

func (m *model) do(o api.Op, limit int) answer {
	switch o.Kind {
	case api.OpPush:
		return answer{err: m.push(o.Thread, o.A)}
	case api.OpPop:
		return answer{err: m.pop(o.Thread)}
	case api.OpClose:
		return answer{err: m.close(o.A)}
	case api.OpMinor:
		m.forced(api.CycleMinor)
		return answer{}
	case api.OpAll:
		m.forced(api.CycleAll)
		return answer{}
	case api.OpMajor:
		m.major()
		return answer{}
	}
	a, e := m.slot(o.Thread, o.A)
	if e != api.OK {
		return answer{err: e}
	}
	switch o.Kind {
	case api.OpAlloc:
		return m.alloc(a, o, limit)
	case api.OpOpen:
		return m.open(*a)
	case api.OpFetch:
		return m.fetch(a, o.B)
	case api.OpTake:
		return m.take(a)
	case api.OpShape, api.OpGet, api.OpPut:
		return m.field(*a, o)
	}
	return m.two(a, o)
}

// two does what names a second slot.
func (m *model) two(a *uint64, o api.Op) answer {
	other := o.B
	if o.Kind == api.OpStore {
		other = o.C
	}
	var b uint64
	if other != -1 || o.Kind == api.OpLoad || o.Kind == api.OpSame {
		at, e := m.slot(o.Thread, other)
		if e != api.OK {
			return answer{err: e}
		}
		b = *at
	}
	switch o.Kind {
	case api.OpCopy:
		*a = b
	case api.OpSame:
		return answer{yes: *a == b}
	case api.OpLoad:
		to, e := m.pointer(b, o.C)
		if e != api.OK {
			return answer{err: e}
		}
		*a = *to
	case api.OpStore:
		to, e := m.pointer(*a, o.B)
		if e != api.OK {
			return answer{err: e}
		}
		*to = b
		if slices.Contains(m.tenured, *a) && m.isYoung(b) && !slices.Contains(m.remembered, *a) {
			m.remembered = append(m.remembered, *a)
		}
	}
	return answer{}
}

// field does what asks of an object's header and raw fields.
func (m *model) field(s uint64, o api.Op) answer {
	if s == 0 {
		return answer{err: api.ErrHeapNull}
	}
	x := m.things[s]
	if o.Kind == api.OpShape {
		h := x.head
		h.Age = 0
		return answer{head: h}
	}
	if o.B < 0 || o.B >= len(x.raws) {
		return answer{err: api.ErrHeapField}
	}
	if o.Kind == api.OpPut {
		x.raws[o.B] = o.Word
		return answer{}
	}
	return answer{word: x.raws[o.B]}
}

func (m *model) pointer(s uint64, i int) (*uint64, api.Errno) {
	if s == 0 {
		return nil, api.ErrHeapNull
	}
	if ptrs := m.things[s].ptrs; i >= 0 && i < len(ptrs) {
		return &ptrs[i], api.OK
	}
	return nil, api.ErrHeapField
}

func (m *model) thread(n int) bool { return n >= 0 && n < m.c.Threads }

func (m *model) slot(thread, slot int) (*uint64, api.Errno) {
	if !m.thread(thread) {
		return nil, api.ErrRootsThread
	}
	frames := m.frames[thread]
	if len(frames) == 0 {
		return nil, api.ErrRootsFrame
	}
	top := frames[len(frames)-1]
	if slot < 0 || slot >= len(top) {
		return nil, api.ErrRootsSlot
	}
	return &top[slot], api.OK
}

func (m *model) push(thread, n int) api.Errno {
	if !m.thread(thread) {
		return api.ErrRootsThread
	}
	if n < 1 {
		return api.ErrRootsSize
	}
	if n > m.c.Slots-len(slices.Concat(m.frames[thread]...)) {
		return api.ErrRootsOverflow
	}
	m.frames[thread] = append(m.frames[thread], make([]uint64, n))
	return api.OK
}

func (m *model) pop(thread int) api.Errno {
	if !m.thread(thread) {
		return api.ErrRootsThread
	}
	last := len(m.frames[thread]) - 1
	if last < 0 {
		return api.ErrRootsFrame
	}
	m.frames[thread] = m.frames[thread][:last]
	return api.OK
}

func (m *model) open(s uint64) answer {
	n := slices.Index(m.handles, handle{})
	if n < 0 {
		return answer{err: api.ErrRootsHandles}
	}
	m.handles[n] = handle{true, s}
	return answer{handle: n}
}

func (m *model) isOpen(n int) bool { return n >= 0 && n < len(m.handles) && m.handles[n].open }

func (m *model) fetch(a *uint64, n int) answer {
	if !m.isOpen(n) {
		return answer{err: api.ErrRootsHandle}
	}
	*a = m.handles[n].serial
	return answer{}
}

func (m *model) close(n int) api.Errno {
	if !m.isOpen(n) {
		return api.ErrRootsHandle
	}
	m.handles[n] = handle{}
	return api.OK
}

func (m *model) take(a *uint64) answer {
	if len(m.queue) == 0 {
		return answer{err: api.ErrHeapEmpty}
	}
	*a, m.queue = m.queue[0], m.queue[1:]
	return answer{}
}

// forced: DOC.md's 'Which cycle comes when', of a forced minor cycle.
func (m *model) forced(cycle int) {
	if !m.guaranteed() {
		m.major()
	}
	if m.guaranteed() {
		m.minor(cycle)
	}
}

// alloc: DOC.md's 'Which cycle comes when', of an allocation.
func (m *model) alloc(a *uint64, o api.Op, limit int) answer {
	h := api.Head{Serial: m.next, Kind: o.B, Ptrs: o.C, Raws: o.D, Site: o.E}
	if _, e := cell.Pack(h); e != api.OK {
		return answer{err: e}
	}
	if m.next > api.MaxSerial {
		return answer{err: api.ErrHeapSerial}
	}
	x := &thing{h, make([]uint64, h.Ptrs), make([]uint64, h.Raws)}
	laid := m.small
	if x.words() >= m.c.Large || x.words() > m.c.Eden {
		laid = m.big
	}
	for !laid(x, o.Thread, limit) {
		if !m.again(x) {
			return answer{err: api.ErrHeapMemory}
		}
	}
	m.things[m.next] = x
	*a = m.next
	if h.Kind == api.Final {
		m.registry = append(m.registry, m.next)
	}
	m.next++
	return answer{serial: h.Serial}
}

// again runs the cycle that is due where there is no room; false: none is.
func (m *model) again(x *thing) bool {
	big := x.words() >= m.c.Large || x.words() > m.c.Eden
	switch {
	case !big && len(m.cycles) == 0 && m.guaranteed():
		m.minor(api.CycleMinor)
	case !ran(m.cycles, api.CycleMajor):
		m.major()
	case !big && m.guaranteed() && !ran(m.cycles, api.CycleAll):
		m.minor(api.CycleAll)
	default:
		return false
	}
	return true
}

func (m *model) big(x *thing, _, limit int) bool {
	v, n := m.view(), x.words()
	if v.TenuredRoom < n || v.Tenured+n > limit && !ran(m.cycles, api.CycleMajor) {
		return false
	}
	m.tenured = append(m.tenured, x.head.Serial)
	return true
}

// small lays an object into a thread's buffer, a new one, or eden: doc/13-buffer.md, P13.3.
func (m *model) small(x *thing, thread, _ int) bool {
	n, free, rest := x.words(), m.c.Eden-m.top, &m.rests[thread]
	at := m.top
	switch {
	case n <= rest[1]:
		at = rest[0]
		*rest = [2]int{at + n, rest[1] - n}
	case n <= m.c.Buffer && n <= free:
		whole := min(m.c.Buffer, free)
		m.top += whole
		*rest = [2]int{at + n, whole - n}
	case n <= free:
		m.top += n
	default:
		return false
	}
	m.eden = append(m.eden, spot{at, x.head.Serial})
	return true
}
