package mutator_test

import (
	"maps"
	"slices"

	"midden/api"
)

// thing: an object of the model. Its pointers are serials; 0 is null.
type thing struct {
	kind, site int
	ptrs, raws []uint64
}

func (x *thing) words() int { return 2 + len(x.ptrs) + len(x.raws) }

// handle: open or not, and what it holds.
type handle struct {
	open   bool
	serial uint64
}

// model: DOC.md's graph model: objects with fields, slots, handles, registry and queue, without addresses or spaces. Of the configuration it looks at the numbers of threads, slots and handles alone.
type model struct {
	c               api.Config
	things          map[uint64]*thing // all that the census is to list
	frames          [][][]uint64
	handles         []handle
	registry, queue []uint64
	next            uint64
}

// set: serials, in no order.
type set map[uint64]struct{}

func (s set) has(serial uint64) bool { _, ok := s[serial]; return ok }

// add adds what isn't null.
func (s set) add(serials ...uint64) {
	for _, x := range serials {
		if x != 0 {
			s[x] = struct{}{}
		}
	}
}

func newModel(c api.Config) *model {
	return &model{c: c, things: map[uint64]*thing{}, frames: make([][][]uint64, c.Threads), handles: make([]handle, c.Handles), next: 1}
}

// roots: slots, handles, queue; null ones too.
func (m *model) roots() []uint64 {
	var l []uint64
	for _, frames := range m.frames {
		l = append(l, slices.Concat(frames...)...)
	}
	for _, h := range m.handles {
		l = append(l, h.serial)
	}
	return append(l, m.queue...)
}

// strong tells the fields that hold what they hold.
func strong(x *thing) []uint64 {
	switch x.kind {
	case api.Weak:
		return x.ptrs[1:]
	case api.Ephemeron:
		return x.ptrs[2:]
	}
	return x.ptrs
}

// grow makes the least set that holds what is in it, with an object all that its strong fields hold, and with an ephemeron whose key is in it its value. What is without counts as null.
func (m *model) grow(in set, without uint64) {
	delete(in, without)
	for size := -1; size != len(in); {
		size = len(in)
		for s := range maps.Clone(in) {
			x := m.things[s]
			in.add(strong(x)...)
			if x.kind == api.Ephemeron && in.has(x.ptrs[0]) {
				in.add(x.ptrs[1])
			}
			delete(in, without)
		}
	}
}

// reach: DOC.md's Reach, where all pointers to one object (0: none) are null.
func (m *model) reach(without uint64) set {
	in := set{}
	in.add(m.roots()...)
	m.grow(in, without)
	return in
}

// kept: DOC.md's Kept.
func (m *model) kept() set {
	in := set{}
	in.add(append(m.roots(), m.registry...)...)
	m.grow(in, 0)
	return in
}

// led: what is in some serials, or led to through pointer fields of all kinds.
func (m *model) led(from ...uint64) set {
	in := set{}
	for open := from; len(open) > 0; open = open[1:] {
		if s := open[0]; s != 0 && !in.has(s) {
			in.add(s)
			open = append(open, m.things[s].ptrs...)
		}
	}
	return in
}

// known: DOC.md's Known.
func (m *model) known() set { return m.led(append(m.roots(), m.registry...)...) }

func (m *model) words(in set) int {
	n := 0
	for s := range in {
		n += m.things[s].words()
	}
	return n
}

// all: what the census is to list.
func (m *model) all() set {
	in := set{}
	in.add(slices.Collect(maps.Keys(m.things))...)
	return in
}

// keep takes away all that isn't in a set.
func (m *model) keep(in set) {
	maps.DeleteFunc(m.things, func(s uint64, _ *thing) bool { return !in.has(s) })
}

// minor: P20.4: of what isn't tenured ahead of it, what nothing leads to is gone. Dead tenured objects lead there, too.
func (m *model) minor(tenured []uint64) {
	m.keep(m.led(slices.Concat(m.roots(), m.registry, tenured)...))
}

// major: DOC.md's 'A major cycle, in one place', 1 and 2, and P20.2: what isn't in Reach by then is gone.
func (m *model) major() {
	in := m.reach(0)
	var registry []uint64
	for _, s := range m.registry {
		if in.has(s) {
			registry = append(registry, s)
			continue
		}
		m.things[s].kind = api.Plain
		m.queue = append(m.queue, s)
		in.add(s)
		m.grow(in, 0)
	}
	m.registry = registry
	for s := range in {
		x := m.things[s]
		if x.kind == api.Weak && !in.has(x.ptrs[0]) {
			x.ptrs[0] = 0
		}
		if x.kind == api.Ephemeron && !in.has(x.ptrs[0]) {
			x.ptrs[0], x.ptrs[1] = 0, 0
		}
	}
	m.keep(in)
}

// graph: P14.12 of what is Known.
func (m *model) graph() api.Graph {
	serials := slices.Sorted(maps.Keys(m.known()))
	number := map[uint64]int{}
	for i, s := range serials {
		number[s] = i + 1
	}
	numbers := func(list []uint64) []int {
		var l []int
		for _, s := range list {
			l = append(l, number[s])
		}
		return l
	}
	g := api.Graph{Next: m.next, Queue: numbers(m.queue), Registry: numbers(m.registry)}
	for _, s := range serials {
		x := m.things[s]
		g.Objects = append(g.Objects, api.Object{Serial: s, Kind: x.kind, Site: x.site, Ptrs: numbers(x.ptrs), Raws: x.raws})
	}
	for _, frames := range m.frames {
		var l [][]int
		for _, frame := range frames {
			l = append(l, numbers(frame))
		}
		g.Slots = append(g.Slots, l)
	}
	for _, h := range m.handles {
		n := -1
		if h.open {
			n = number[h.serial]
		}
		g.Handles = append(g.Handles, n)
	}
	return g
}

// sites: P15.3 of all objects.
func (m *model) sites() []api.Site {
	var l []api.Site
	for site := range 256 {
		x := api.Site{Site: site}
		for _, o := range m.things {
			if o.site == site {
				x.Objects, x.Words = x.Objects+1, x.Words+o.words()
			}
		}
		if x.Objects > 0 {
			l = append(l, x)
		}
	}
	return l
}

// path: P17.5 in serials, with one slot null. From each object the distance to the last one is told; then the least one that is nearer is taken, again and again.
func (m *model) path(slot *uint64) []uint64 {
	to, in := *slot, m.reach(0)
	*slot = 0
	roots := m.roots()
	*slot = to
	far := map[uint64]int{to: 1}
	for grown := true; grown; {
		grown = false
		for s := range in {
			for _, next := range strong(m.things[s]) {
				if n := far[next]; n != 0 && (far[s] == 0 || far[s] > n+1) {
					far[s], grown = n+1, true
				}
			}
		}
	}
	var l []uint64
	for open, n := roots, nearest(far, roots); n > 0; n-- {
		at := slices.MinFunc(open, func(x, y uint64) int { return rank(far, x, n) - rank(far, y, n) })
		l = append(l, at)
		open = strong(m.things[at])
	}
	return l
}

// nearest tells the least distance of some; 0, if no way leads from any of them.
func nearest(far map[uint64]int, list []uint64) int {
	n := 0
	for _, s := range list {
		if d := far[s]; d != 0 && (n == 0 || d < n) {
			n = d
		}
	}
	return n
}

// rank tells the serial of one that is so far away, and of others more than any serial here.
func rank(far map[uint64]int, s uint64, n int) int {
	if far[s] != n {
		return 1 << 40
	}
	return int(s)
}
