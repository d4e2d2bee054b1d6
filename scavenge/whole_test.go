package scavenge_test

import (
	"fmt"
	"maps"
	"slices"
	"testing"

	"midden/api"
	"midden/scavenge"
)

// life does to a memory what the dice say: with the same dice and the same memory the same.
type life struct {
	*memory
	dice
	serial uint64
}

func begun(t *testing.T, seed int, c api.Config) *life {
	t.Helper()
	l := &life{memory: made(t, c), dice: dice(seed)}
	l.r.Push(1, 6)
	for range l.below(5) {
		l.r.Enqueue(0)
	}
	return l
}

// objects tells all that the walks meet.
func (m *memory) objects() []int {
	var l []int
	for _, space := range all {
		for at := range m.a.Objects(space) {
			l = append(l, at)
		}
	}
	return l
}

// step makes an object, or some words that are none, or stores, or changes what roots and registry hold.
func (l *life) step(t *testing.T) {
	t.Helper()
	ats := append(l.objects(), 0)
	any := func() int { return ats[l.below(len(ats))] }
	switch l.below(12) {
	case 0, 1, 2, 3:
		l.make()
	case 4:
		l.a.Fill([]int{api.SpaceEden, api.SpaceEden, api.SpaceTenured, l.a.From()}[l.below(4)], 1+l.below(5))
	case 5:
		l.r.Set(l.below(2), l.below(8), any())
	case 6:
		if _, e := l.r.Open(any()); e != api.OK {
			l.r.Close(l.below(4))
		}
	case 7:
		l.r.Enqueue(any())
		for len(l.r.Queue()) > 3 {
			l.r.Dequeue()
		}
	case 8:
		if l.registry = append(l.registry, any()); len(l.registry) > 4 {
			l.registry = l.registry[2:]
		}
	default:
		at := any()
		if h, _ := l.a.Head(at); h.Ptrs > 0 {
			l.store(t, at, l.below(h.Ptrs), any())
		}
	}
}

// make lays an object of any age in eden, seldom in another space, held by a slot mostly.
func (l *life) make() {
	l.serial++
	h := l.head(l.serial)
	h.Raws = []int{0, 1, 2, 3, 20}[l.below(5)]
	if l.below(3) > 0 {
		h.Age = l.below(4)
	}
	at, ok := l.a.Put([]int{api.SpaceEden, api.SpaceEden, api.SpaceEden, api.SpaceTenured, l.a.From()}[l.below(5)], h)
	if !ok {
		return
	}
	for i := range h.Raws {
		l.a.SetRaw(at, i, l.word()>>l.below(64))
	}
	if l.below(3) > 0 {
		l.r.Set(l.below(2), l.below(6), at)
	}
}

// TestModel: long lives of many memories, held against the chapter's calls word for word.
func TestModel(t *testing.T) {
	var sum api.Minor
	for seed := range 60 {
		c := sized(64+3*seed, 64+seed%10, 300+20*seed)
		l, twin := begun(t, seed, c), begun(t, seed, c)
		for range 300 {
			l.step(t)
			twin.step(t)
			if l.below(10) > 0 || !scavenge.Guaranteed(l.a) {
				twin.dice = l.dice
				continue
			}
			threshold, cycle := 1+l.below(15), []int{api.CycleMinor, api.CycleMinor, api.CycleMinor, api.CycleAll}[l.below(4)]
			twin.dice = l.dice
			was := take(l.memory)
			x := l.run(t, threshold, cycle)
			want(t, "P9.6: the answer", x, twin.minor(threshold, cycle))
			if got, held := l.told(), twin.told(); got != held {
				t.Fatalf("P9.3 to P9.5: %s, want %s", got, held)
			}
			was.check(t, l.memory, cycle)
			sum.Copied, sum.Promoted, sum.Overflow = sum.Copied+x.Copied, sum.Promoted+x.Promoted, sum.Overflow+x.Overflow
		}
	}
	if sum.Copied < 1000 || sum.Promoted < 1000 || sum.Overflow < 50 {
		t.Errorf("the lives are too poor: %+v", sum)
	}
}

// node: an object without addresses.
type node struct {
	Kind, Site int
	Ptrs       []uint64 // by serial; 0: null
	Raws       []uint64
}

// graph: a memory without addresses, and what of it must not change.
type graph struct {
	nodes    map[uint64]node
	held     []uint64 // by the roots
	registry []uint64
	reached  map[uint64]bool
	tenured  []thing
	young    int // words
	occupied int // of the tenured space
}

// take tells the graph of a memory in which each object has a serial of its own.
func take(m *memory) graph {
	g := graph{nodes: map[uint64]node{}, young: m.youngOccupied(), occupied: m.occupied(api.SpaceTenured), tenured: m.things(api.SpaceTenured)}
	for _, at := range m.objects() {
		x := m.thing(at)
		g.nodes[x.Head.Serial] = node{x.Head.Kind, x.Head.Site, m.named(x.Ptrs), x.Raws}
	}
	g.held, g.registry = m.named(m.r.All()), m.named(m.registry)
	first := slices.Concat(g.held, g.registry)
	for _, x := range g.tenured {
		first = append(first, x.Head.Serial)
	}
	g.reached = g.from(first)
	return g
}

// named tells serials in the place of addresses.
func (m *memory) named(ats []int) []uint64 {
	l := []uint64{}
	for _, at := range ats {
		h, _ := m.a.Head(at)
		l = append(l, h.Serial)
	}
	return l
}

func (g graph) from(open []uint64) map[uint64]bool {
	met := map[uint64]bool{}
	for ; len(open) > 0; open = open[1:] {
		if x := open[0]; x != 0 && !met[x] {
			met[x] = true
			open = append(open, g.nodes[x].Ptrs...)
		}
	}
	return met
}

// check holds what is behind a cycle against what was ahead of it: P9.7, P9.8.
func (g graph) check(t *testing.T, m *memory, cycle int) {
	t.Helper()
	now := take(m)
	for serial := range g.nodes {
		if !g.reached[serial] {
			delete(g.nodes, serial)
		}
	}
	want(t, "P9.7: the objects", fmt.Sprint(now.nodes), fmt.Sprint(g.nodes))
	want(t, "P9.7: each once", len(m.objects()), len(g.nodes))
	want(t, "P9.7: the roots", now.held, g.held)
	want(t, "P9.7: the registry", now.registry, g.registry)
	for i, x := range g.tenured {
		if now.tenured[i].At != x.At || now.tenured[i].Head.Age != x.Head.Age {
			t.Errorf("P9.7: the tenured object %+v is %+v", x, now.tenured[i])
		}
	}
	sound(t, m)
	if now.occupied-g.occupied > g.young {
		t.Errorf("P9.8: %d words became %d, of %d young ones", g.occupied, now.occupied, g.young)
	}
	if cycle == api.CycleAll {
		want(t, "P9.8: young words behind CycleAll", m.youngOccupied(), 0)
	}
}

// sound: the chapter's section 'Words', and an empty eden.
func sound(t *testing.T, m *memory) {
	t.Helper()
	if at, e := m.a.Check(); e != api.OK {
		t.Errorf("P9.7: no walk past %d", at)
	}
	want(t, "P9.7: eden and the to space", []int{m.occupied(api.SpaceEden), m.occupied(m.a.To())}, "[0 0]")
	met := map[int]bool{0: true}
	for _, at := range m.objects() {
		met[at] = true
	}
	held := slices.Concat(m.r.All(), m.registry, m.s.List())
	for at := range maps.Keys(met) {
		held = append(held, m.thing(at).Ptrs...)
	}
	for _, at := range held {
		if !met[at] {
			t.Errorf("P9.7: %d is no object's address", at)
		}
	}
	if at, ok := m.s.Missing(); ok {
		t.Errorf("P9.7: %d is missing", at)
	}
	for _, at := range m.s.List() {
		want(t, "P9.7: the space of what is in the list", m.a.Space(at), api.SpaceTenured)
	}
}

// TestNeverLacksRoom: all young ones live, and just as many words are free: P9.8.
func TestNeverLacksRoom(t *testing.T) {
	for _, cycle := range []int{api.CycleMinor, api.CycleAll} {
		for _, sizes := range [][]int{{2, 3, 59}, {64}, {30, 34}, {20, 20, 24}, {2, 2, 60}} {
			m := made(t, sized(64, 64, 130))
			m.fill(t, api.SpaceTenured, 2)
			for _, space := range []int{api.SpaceEden, api.SpaceA} {
				for i, n := range sizes {
					at := m.put(t, space, api.Head{Serial: uint64(10*space + i), Kind: api.Plain, Raws: n - 2, Age: i})
					m.registry = append(m.registry, at)
				}
			}
			g := take(m)
			x := m.run(t, 1, cycle)
			g.check(t, m, cycle)
			want(t, "P9.8: all are there", x.Copied+x.Promoted, 2*len(sizes))
			want(t, "P9.8: all words are there", m.occupied(m.a.From())+m.occupied(api.SpaceTenured), 130)
		}
	}
}

// TestAge: an object that outlives k cycles has the age k, up to 15; with the greatest threshold and room it is promoted then, at that age.
func TestAge(t *testing.T) {
	m := made(t, small())
	m.hold(t, m.plain(t, api.SpaceEden, 1, 0))
	for k := 1; k <= 15; k++ {
		want(t, "P9.9: promoted", m.run(t, 15, api.CycleMinor).Promoted, 0)
		want(t, "P9.9: the age", m.thing(m.r.All()[0]).Head.Age, k)
	}
	want(t, "P9.9: promoted", m.run(t, 15, api.CycleMinor).Promoted, 1)
	want(t, "P9.9: where and what", m.thing(193).Head, api.Head{Serial: 1, Kind: api.Plain, Ptrs: 1, Age: 15})
	m.run(t, 15, api.CycleMinor)
	want(t, "P9.9: a tenured object's age", m.thing(193).Head.Age, 15)
}

// TestGreatest: the greatest spaces, full of a chain as long as can be.
func TestGreatest(t *testing.T) {
	for _, cycle := range []int{api.CycleMinor, api.CycleAll} {
		m := made(t, sized(api.MaxSpace, api.MaxSpace, api.MaxSpace))
		n := 0
		for m.a.Free(api.SpaceEden) >= 3 {
			n++
			m.plain(t, api.SpaceEden, uint64(n), max(0, 3*(n-1)-2))
		}
		m.hold(t, 3*n-2)
		x := m.run(t, 1, cycle)
		want(t, "P9.3: how many", x.Copied+x.Promoted, n)
		space := map[int]int{api.CycleMinor: api.SpaceB, api.CycleAll: api.SpaceTenured}[cycle]
		at, _ := m.a.Bounds(space)
		for i := n; i > 0; i-- {
			next := at + 3
			if i == 1 {
				next = 0
			}
			h, _ := m.a.Head(at)
			if to, _ := m.a.Ptr(at, 0); h.Serial != uint64(i) || to != next {
				t.Fatalf("P9.4: at %d: %+v, which holds %d", at, h, to)
			}
			at += 3
		}
	}
}

// TestGreatestObject: the most fields that an object may have.
func TestGreatestObject(t *testing.T) {
	m := made(t, sized(api.MaxSpace, api.MaxSpace, api.MaxSpace))
	h := api.Head{Serial: 1, Kind: api.Final, Ptrs: api.MaxPtrs, Raws: api.MaxSpace - 2 - api.MaxPtrs}
	at := m.put(t, api.SpaceEden, h)
	m.point(t, at, api.MaxPtrs-1, at)
	m.a.SetRaw(at, h.Raws-1, 9)
	m.hold(t, at)
	x := m.run(t, 1, api.CycleMinor)
	want(t, "P9.6: the answer", x, api.Minor{Copied: 1, Words: [16]int{1: api.MaxSpace}})
	got := m.r.All()[0]
	to, _ := m.a.Ptr(got, api.MaxPtrs-1)
	w, _ := m.a.Raw(got, h.Raws-1)
	want(t, "P9.3: its last fields", []int{to, int(w)}, []int{got, 9})
}
