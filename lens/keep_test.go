package lens_test

import (
	"fmt"
	"slices"
	"testing"

	"midden/api"
	"midden/lens"
)

// roomy tells a list with spare room behind it, in which something stands.
func roomy[T any](list []T, spare T) []T {
	n := len(list)
	list = append(slices.Clone(list), spare, spare, spare)
	return list[:n]
}

// spares is mixed with spare room behind all lists.
func spares() api.Graph {
	g := mixed()
	for i := range g.Objects {
		o := &g.Objects[i]
		o.Ptrs, o.Raws = roomy(o.Ptrs, 77), roomy(o.Raws, 78)
	}
	for t, frames := range g.Slots {
		for i, slots := range frames {
			frames[i] = roomy(slots, 79)
		}
		g.Slots[t] = roomy(frames, []int{85})
	}
	g.Objects = roomy(g.Objects, api.Object{Serial: 80})
	g.Slots = roomy(g.Slots, [][]int{{81}})
	g.Handles, g.Registry, g.Queue = roomy(g.Handles, 82), roomy(g.Registry, 83), roomy(g.Queue, 84)
	return g
}

// all tells what stands in a graph and in its spare room.
func all(g api.Graph) string {
	s := fmt.Sprint(g, g.Handles[:cap(g.Handles)], g.Registry[:cap(g.Registry)], g.Queue[:cap(g.Queue)], g.Objects[:cap(g.Objects)], g.Slots[:cap(g.Slots)])
	for _, o := range g.Objects {
		s += fmt.Sprint(o.Ptrs[:cap(o.Ptrs)], o.Raws[:cap(o.Raws)])
	}
	for _, frames := range g.Slots {
		s += fmt.Sprint(frames[:cap(frames)])
		for _, slots := range frames {
			s += fmt.Sprint(slots[:cap(slots)])
		}
	}
	return s
}

func TestHandedInStays(t *testing.T) {
	g, other := spares(), spares()
	is := all(g)
	for range 2 {
		lens.Retained(g)
		want(t, "rule 3: Retained", all(g), is)
		lens.Dominators(g)
		want(t, "rule 3: Dominators", all(g), is)
		for to := range 12 {
			lens.Path(g, to)
			want(t, "rule 3: Path", all(g), is)
		}
		other.Objects[0].Site = 4
		was := all(other)
		lens.Grown(g, other)
		lens.Grown(other, g)
		want(t, "rule 3: Grown", []string{all(g), all(other)}, []string{is, was})
		for workers := 1; workers <= api.MaxWorkers; workers++ {
			lens.Find(g, workers, nil, noOne)
			want(t, "rule 3: Find", all(g), is)
		}
	}
	g.Queue[0] = g.Queue[1]
	is = all(g)
	refused(t, "one that may not be", g)
	want(t, "rule 3: a graph that may not be", all(g), is)
}

// fill writes into a list and its spare room.
func fill[T any](list []T, x T) {
	list = list[:cap(list)]
	for i := range list {
		list[i] = x
	}
}

// Answers may be written into and appended to: neither the graph nor another answer is touched.
func TestAnswersAreNew(t *testing.T) {
	g := mixed()
	is := fmt.Sprint(g)
	for what, call := range map[string]func() []int{
		"Retained":     func() []int { return retains(t, g) },
		"Dominators":   func() []int { return dominates(t, g) },
		"Path":         func() []int { return leads(t, g, 7) },
		"another Path": func() []int { return leads(t, g, 6) },
	} {
		one, two := call(), call()
		told := fmt.Sprint(two)
		fill(one, 1000)
		want(t, "rule 3: another answer of "+what, two, told)
		want(t, "rule 3: a later answer of "+what, call(), told)
		want(t, "rule 3: the graph behind "+what, g, is)
	}
	one, two := lens.Grown(api.Graph{}, g), lens.Grown(api.Graph{}, g)
	told := fmt.Sprint(two)
	fill(one, api.Growth{Site: 7})
	want(t, "rule 3: another answer of Grown", two, told)
	want(t, "rule 3: a later answer of Grown", lens.Grown(api.Graph{}, g), told)
}

// What becomes of a graph later changes no answer.
func TestHandedInIsNotKept(t *testing.T) {
	g := mixed()
	retained, above, path, grown := retains(t, g), dominates(t, g), leads(t, g, 7), lens.Grown(api.Graph{}, g)
	told := fmt.Sprint(retained, above, path, grown)
	for _, o := range g.Objects {
		fill(o.Ptrs, 1)
	}
	fill(g.Slots[0][0], 0)
	fill(g.Queue, 1)
	fill(g.Handles, -1)
	fill(g.Objects, api.Object{})
	want(t, "rule 3: what was answered", fmt.Sprint(retained, above, path, grown), told)
}

// A nil list and an empty one are the same.
func TestNilAndEmpty(t *testing.T) {
	for _, g := range []api.Graph{
		{Slots: [][][]int{nil}, Next: 1},
		{Objects: []api.Object{}, Slots: [][][]int{{}}, Handles: []int{}, Registry: []int{}, Queue: []int{}, Next: 1},
	} {
		sound(t, g)
		want(t, "rule 2: no objects", []int{len(retains(t, g)), len(dominates(t, g)), len(lens.Grown(g, g))}, []int{0, 0, 0})
		want(t, "rule 2: no objects", found(g, 2, nil, everyone), [2]int{0, 0})
	}
	one := graphOf([]int{1}, api.Object{Kind: api.Plain})
	two := graphOf([]int{1}, api.Object{Kind: api.Plain, Ptrs: []int{}, Raws: []uint64{}})
	two.Handles, two.Queue, two.Registry = []int{}, []int{}, []int{}
	want(t, "rule 2: empty lists", []any{retains(t, two), dominates(t, two), leads(t, two, 1)}, []any{retains(t, one), dominates(t, one), leads(t, one, 1)})
	want(t, "rule 2: empty lists", lens.Grown(one, two), []int{})
}
