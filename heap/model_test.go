package heap_test

import (
	"maps"
	"slices"

	"midden/api"
)

// thing: an object of the model. Its pointers are serials, 0 is null; its Held is told by the remembered list alone.
type thing struct {
	head api.Head
	ptrs []uint64
	raws []uint64
}

func (x *thing) words() int { return 2 + len(x.ptrs) + len(x.raws) }

// spot: an object in eden, so many words behind its beginning.
type spot struct {
	at     int
	serial uint64
}

// handle: open or not, and what it holds.
type handle struct {
	open   bool
	serial uint64
}

// model: DOC.md's cycles and doc/14-heap.md, word for word, over lists of serials instead of words.
type model struct {
	c               api.Config
	things          map[uint64]*thing // all that lie in a space
	eden            []spot
	top             int       // how many words of eden are in use
	rests           [8][2]int // of the threads' buffers: where in eden, how many words
	from, tenured   []uint64
	swapped         bool // B is the from space
	remembered      []uint64
	frames          [][][]uint64
	handles         []handle
	registry, queue []uint64
	threshold, base int
	next            uint64
	cycles          []int // of the operation that is under way
	fresh           map[uint64]int
	to, promoted    []uint64
}

func newModel(c api.Config) *model {
	return &model{c: c, things: map[uint64]*thing{}, frames: make([][][]uint64, c.Threads), handles: make([]handle, c.Handles), threshold: c.MaxAge, next: 1}
}

// modelOf is the model of a heap that was restored.
func modelOf(c api.Config, g api.Graph) *model {
	m := newModel(c)
	for _, o := range g.Objects {
		m.things[o.Serial] = &thing{api.Head{Serial: o.Serial, Kind: o.Kind, Ptrs: len(o.Ptrs), Raws: len(o.Raws), Site: o.Site}, serials(g, o.Ptrs), slices.Clone(o.Raws)}
		m.tenured = append(m.tenured, o.Serial)
	}
	for thread, frames := range g.Slots {
		for _, frame := range frames {
			m.frames[thread] = append(m.frames[thread], serials(g, frame))
		}
	}
	for i, n := range g.Handles {
		m.handles[i] = handle{n >= 0, serials(g, []int{n})[0]}
	}
	m.registry, m.queue, m.next = serials(g, g.Registry), serials(g, g.Queue), g.Next
	m.base = m.words(m.tenured)
	return m
}

func (m *model) words(list []uint64) int {
	n := 0
	for _, s := range list {
		n += m.things[s].words()
	}
	return n
}

func (m *model) edenSerials() []uint64 {
	slices.SortFunc(m.eden, func(x, y spot) int { return x.at - y.at })
	var l []uint64
	for _, x := range m.eden {
		l = append(l, x.serial)
	}
	return l
}

func (m *model) isYoung(s uint64) bool {
	return slices.Contains(m.from, s) || slices.ContainsFunc(m.eden, func(x spot) bool { return x.serial == s })
}

func (m *model) holdsYoung(s uint64) bool { return slices.ContainsFunc(m.things[s].ptrs, m.isYoung) }

func (m *model) limit() int { return max(m.c.Floor, m.base*m.c.Num/m.c.Den) }

func (m *model) view() api.View {
	tenured := m.words(m.tenured)
	return api.View{EdenRoom: m.c.Eden - m.top, Young: m.top + m.words(m.from), Tenured: tenured, TenuredRoom: m.c.Tenured - tenured}
}

func (m *model) guaranteed() bool { return m.view().Young <= m.view().TenuredRoom }

func (m *model) fillers() int { return m.top - m.words(m.edenSerials()) }

// roots: slots, handles, queue, in their order; null ones too.
func (m *model) roots() []uint64 {
	var l []uint64
	for _, frames := range m.frames {
		for _, frame := range frames {
			l = append(l, frame...)
		}
	}
	for _, h := range m.handles {
		l = append(l, h.serial)
	}
	return append(l, m.queue...)
}

// minor: DOC.md's 'A minor cycle, in one place'.
func (m *model) minor(cycle int) {
	m.cycles = append(m.cycles, cycle)
	m.rests = [8][2]int{}
	m.fresh, m.to, m.promoted = map[uint64]int{}, nil, nil
	var young, old []uint64 // copies that wait to be gone through
	visit := func(s uint64) {
		if _, met := m.fresh[s]; met || !m.isYoung(s) {
			return
		}
		x := m.things[s]
		m.fresh[s] = 1
		full := m.words(m.to)+x.words() > m.c.Survivor
		if x.head.Age+1 > m.threshold || cycle == api.CycleAll || full {
			m.promoted, old = append(m.promoted, s), append(old, s)
		} else {
			m.to, young = append(m.to, s), append(young, s)
		}
		x.head.Age = min(x.head.Age+1, 15)
	}
	each := func(list []uint64) {
		for _, s := range list {
			visit(s)
		}
	}
	each(m.roots())
	each(m.registry)
	for _, s := range m.remembered {
		each(m.things[s].ptrs)
	}
	for len(young)+len(old) > 0 {
		if len(young) > 0 {
			s := young[0]
			young = young[1:]
			each(m.things[s].ptrs)
		} else {
			s := old[0]
			old = old[1:]
			each(m.things[s].ptrs)
		}
	}
	for _, s := range slices.Concat(m.edenSerials(), m.from) {
		if m.fresh[s] == 0 {
			delete(m.things, s)
		}
	}
	m.eden, m.top, m.from, m.swapped = nil, 0, m.to, !m.swapped
	m.tenured = append(m.tenured, m.promoted...)
	list := slices.Concat(m.remembered, m.promoted)
	m.remembered = slices.DeleteFunc(list, func(s uint64) bool { return !m.holdsYoung(s) })
	m.turn()
}

// turn reckons the threshold anew.
func (m *model) turn() {
	wanted, sum := m.c.Survivor*m.c.Target/100, 0
	for m.threshold = 1; m.threshold < m.c.MaxAge; m.threshold++ {
		for _, s := range m.from {
			if x := m.things[s]; x.head.Age == m.threshold {
				sum += x.words()
			}
		}
		if sum > wanted {
			return
		}
	}
}

// strong tells the pointers that hold what they hold.
func strong(x *thing) []uint64 {
	switch x.head.Kind {
	case api.Weak:
		return x.ptrs[1:]
	case api.Ephemeron:
		return x.ptrs[2:]
	}
	return x.ptrs
}

// reach lays into a set what is in Reach from some objects, by the set's words: again and again, till nothing comes to it.
func (m *model) reach(in map[uint64]int, from []uint64) {
	add := func(list ...uint64) {
		for _, s := range list {
			if s != 0 {
				in[s] = 1
			}
		}
	}
	add(from...)
	for grown := -1; grown != len(in); {
		grown = len(in)
		for _, s := range slices.Collect(maps.Keys(in)) {
			x := m.things[s]
			add(strong(x)...)
			if x.head.Kind == api.Ephemeron && in[x.ptrs[0]] != 0 {
				add(x.ptrs[1])
			}
		}
	}
}

func (m *model) reached() map[uint64]int {
	in := map[uint64]int{}
	m.reach(in, m.roots())
	return in
}

// kept tells the words of Kept.
func (m *model) kept() int {
	in := map[uint64]int{}
	m.reach(in, append(m.roots(), m.registry...))
	return m.words(slices.Collect(maps.Keys(in)))
}

func (m *model) known() map[uint64]int {
	in := map[uint64]int{}
	open := append(m.roots(), m.registry...)
	for ; len(open) > 0; open = open[1:] {
		if s := open[0]; s != 0 && in[s] == 0 {
			in[s] = 1
			open = append(open, m.things[s].ptrs...)
		}
	}
	return in
}

// major: DOC.md's 'A major cycle, in one place'.
func (m *model) major() {
	m.cycles = append(m.cycles, api.CycleMajor)
	m.rests = [8][2]int{}
	in := m.reached()
	var registry []uint64
	for _, s := range m.registry {
		if in[s] != 0 {
			registry = append(registry, s)
			continue
		}
		m.things[s].head.Kind = api.Plain
		m.queue = append(m.queue, s)
		m.reach(in, []uint64{s})
	}
	m.registry = registry
	for s := range in {
		x := m.things[s]
		if x.head.Kind == api.Weak && in[x.ptrs[0]] == 0 {
			x.ptrs[0] = 0
		}
		if x.head.Kind == api.Ephemeron && in[x.ptrs[0]] == 0 {
			x.ptrs[0], x.ptrs[1] = 0, 0
		}
	}
	gone := func(s uint64) bool { return in[s] == 0 }
	eden := slices.DeleteFunc(m.edenSerials(), gone)
	m.from = slices.DeleteFunc(m.from, gone)
	m.tenured = slices.DeleteFunc(m.tenured, gone)
	maps.DeleteFunc(m.things, func(s uint64, _ *thing) bool { return gone(s) })
	m.eden, m.top = nil, 0
	for _, s := range eden {
		m.eden = append(m.eden, spot{m.top, s})
		m.top += m.things[s].words()
	}
	m.remembered = slices.DeleteFunc(slices.Clone(m.tenured), func(s uint64) bool { return !m.holdsYoung(s) })
}

// objects tells what a space's walk is to meet: addresses and headers.
func (m *model) objects(space int) (ats []int, heads []api.Head) {
	first := []int{0, 1, 1 + m.c.Eden, 1 + m.c.Eden + m.c.Survivor, 1 + m.c.Eden + 2*m.c.Survivor}[space]
	list := m.tenured
	switch {
	case space == api.SpaceEden:
		list = m.edenSerials()
	case space == api.SpaceA && !m.swapped, space == api.SpaceB && m.swapped:
		list = m.from
	case space != api.SpaceTenured:
		list = nil
	}
	at := first
	for i, s := range list {
		h := m.things[s].head
		h.Held = slices.Contains(m.remembered, s)
		if space == api.SpaceEden {
			at = first + m.eden[i].at
		}
		ats, heads = append(ats, at), append(heads, h)
		at += m.things[s].words()
	}
	return ats, heads
}

// graph: P14.12.
func (m *model) graph(every bool) api.Graph {
	in := m.reached()
	if every {
		in = m.known()
	}
	number := map[uint64]int{}
	g := api.Graph{Next: m.next}
	for i, s := range slices.Sorted(maps.Keys(in)) {
		number[s] = i + 1
	}
	numbers := func(list []uint64) []int {
		var l []int
		for _, s := range list {
			l = append(l, number[s])
		}
		return l
	}
	for _, s := range slices.Sorted(maps.Keys(in)) {
		x := m.things[s]
		g.Objects = append(g.Objects, api.Object{Serial: s, Kind: x.head.Kind, Site: x.head.Site, Ptrs: numbers(x.ptrs), Raws: x.raws})
	}
	for _, frames := range m.frames {
		var l [][]int
		for _, frame := range frames {
			l = append(l, numbers(frame))
		}
		g.Slots = append(g.Slots, l)
	}
	for _, h := range m.handles {
		n := -1
		if h.open {
			n = number[h.serial]
		}
		g.Handles = append(g.Handles, n)
	}
	g.Queue = numbers(m.queue)
	g.Registry = slices.DeleteFunc(numbers(m.registry), func(n int) bool { return n == 0 })
	return g
}
