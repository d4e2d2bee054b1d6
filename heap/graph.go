package heap

import (
	"cmp"
	"slices"

	"midden/api"
	"midden/graph"
	"midden/marks"
)

// Graph tells what is Known (all true), or Reach, without addresses; in Reach weak fields to what isn't in it are null.
func (p *parts) Graph(all bool) api.Graph {
	in := p.reached
	if all {
		in = p.known
	}
	stand := p.bySerial(in())
	number := numbers(stand)
	g := api.Graph{Handles: number.of(p.roots.Handles()), Registry: number.named(p.registry.List()), Queue: number.of(p.roots.Queue()), Next: p.next}
	for _, o := range stand {
		g.Objects = append(g.Objects, api.Object{Serial: o.head.Serial, Kind: o.head.Kind, Site: o.head.Site, Ptrs: number.of(p.ptrs(o.at)), Raws: p.raws(o.at)})
	}
	for thread := range p.config().Threads {
		g.Slots = append(g.Slots, number.ofAll(p.frames(thread)))
	}
	return g
}

// known marks the first words of what is Known.
func (p *parts) known() *marks.Map {
	m := p.unmarked()
	open := p.entries()
	for len(open) > 0 {
		last := len(open) - 1
		at := open[last]
		open = open[:last]
		if at != 0 && !m.Has(at) {
			m.Set(at, 1)
			open = append(open, p.ptrs(at)...)
		}
	}
	return m
}

// standing: an object, and where it stands.
type standing struct {
	at   int
	head api.Head
}

// bySerial tells the marked objects in the order of their serials.
func (p *parts) bySerial(m *marks.Map) []standing {
	var list []standing
	for at, h := range p.objects() {
		if m.Has(at) {
			list = append(list, standing{at, h})
		}
	}
	slices.SortFunc(list, func(x, y standing) int { return cmp.Compare(x.head.Serial, y.head.Serial) })
	return list
}

// closed is what is told of a handle that isn't open, by roots and in graphs.
const closed = graph.Closed

// translation: an object's address by its number in a graph, or its number by its address. What it doesn't name is null, which is 0 in both.
type translation map[int]int

// numbers tells the translation into a graph of these objects.
func numbers(list []standing) translation {
	t := translation{closed: closed}
	for i, o := range list {
		t[o.at] = i + 1
	}
	return t
}

func (t translation) of(list []int) []int {
	told := make([]int, len(list))
	for i, n := range list {
		told[i] = t[n]
	}
	return told
}

func (t translation) ofAll(lists [][]int) [][]int {
	told := make([][]int, len(lists))
	for i, list := range lists {
		told[i] = t.of(list)
	}
	return told
}

// named is of, without what isn't named.
func (t translation) named(list []int) []int {
	return slices.DeleteFunc(t.of(list), func(n int) bool { return n == 0 })
}
