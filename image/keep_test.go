package image_test

import (
	"bytes"
	"fmt"
	"slices"
	"testing"

	"midden/api"
	"midden/heap"
	"midden/image"
)

// roomy tells a list with spare room behind it, in which something stands.
func roomy[T any](list []T, spare T) []T {
	n := len(list)
	list = append(slices.Clone(list), spare, spare, spare)
	return list[:n]
}

// spares is mixed with spare room behind all lists.
func spares() api.Graph {
	g := mixed()
	for i := range g.Objects {
		o := &g.Objects[i]
		o.Ptrs, o.Raws = roomy(o.Ptrs, 77), roomy(o.Raws, 78)
	}
	for _, frames := range g.Slots {
		for i, slots := range frames {
			frames[i] = roomy(slots, 79)
		}
	}
	g.Objects = roomy(g.Objects, api.Object{Serial: 80})
	g.Slots = roomy(g.Slots, [][]int{{81}})
	g.Handles, g.Registry, g.Queue = roomy(g.Handles, 82), roomy(g.Registry, 83), roomy(g.Queue, 84)
	return g
}

// all tells what stands in a graph and in its spare room.
func all(g api.Graph) string {
	s := fmt.Sprint(g, g.Handles[:cap(g.Handles)], g.Registry[:cap(g.Registry)], g.Queue[:cap(g.Queue)], g.Objects[:cap(g.Objects)], g.Slots[:cap(g.Slots)])
	for _, o := range g.Objects {
		s += fmt.Sprint(o.Ptrs[:cap(o.Ptrs)], o.Raws[:cap(o.Raws)])
	}
	for _, frames := range g.Slots {
		for _, slots := range frames {
			s += fmt.Sprint(slots[:cap(slots)])
		}
	}
	return s
}

// TestHandedInStays: neither a graph nor bytes are changed, spare room included.
func TestHandedInStays(t *testing.T) {
	g := spares()
	is := all(g)
	want(t, "P16.1", image.Check(g), api.OK)
	want(t, "rule 3: Check", all(g), is)
	image.Write(g)
	want(t, "rule 3: Write", all(g), is)
	wrong := spares()
	wrong.Queue[1] = wrong.Queue[0]
	is = all(wrong)
	image.Check(wrong)
	image.Write(wrong)
	want(t, "rule 3: a graph that may not be", all(wrong), is)
	for _, end := range [][]byte{nil, {0}} {
		b := roomy(append(asked(mixed()), end...), 9)
		was := slices.Clone(b[:cap(b)])
		image.Read(b)
		image.Load(small(), b)
		want(t, "rule 3: Read and Load", b[:cap(b)], was)
	}
}

// TestHandedInIsNotKept: what becomes of it later changes no answer.
func TestHandedInIsNotKept(t *testing.T) {
	g := mixed()
	b, _ := image.Write(g)
	g.Objects[0].Ptrs[0], g.Objects[1].Raws[0], g.Slots[0][0][0], g.Queue[0], g.Handles[0] = 1, 1, 1, 1, 1
	want(t, "rule 3: Write keeps no graph", b, asked(mixed()))
	got, _, _ := image.Read(b)
	c := fitting()
	h, _, e := image.Load(c, b)
	want(t, "P16.5", e, api.OK)
	clear(b)
	want(t, "rule 3: Read keeps no bytes", got, mixed())
	want(t, "rule 3: Load keeps no bytes", h.Graph(true), mixed())
}

// TestAnswersAreNew: bytes and lists may be written into and appended to, and no other answer, no other list of it is touched.
func TestAnswersAreNew(t *testing.T) {
	first, _ := image.Write(mixed())
	second, _ := image.Write(mixed())
	clear(first[:cap(first)])
	want(t, "rule 3: another answer of Write", second, asked(mixed()))
	h, _ := heap.Restore(fitting(), mixed())
	first, second = image.Save(h), image.Save(h)
	clear(first[:cap(first)])
	want(t, "rule 3: another answer of Save", second, asked(mixed()))
	want(t, "rule 3: a later answer of Save", image.Save(h), second)

	b := asked(mixed())
	g, _, _ := image.Read(b)
	other, _, _ := image.Read(b)
	lists := [][]int{g.Handles, g.Registry, g.Queue, g.Slots[0][0], g.Slots[0][1], g.Slots[0][2], g.Slots[2][0]}
	for _, o := range g.Objects {
		lists = append(lists, o.Ptrs)
	}
	for i, l := range lists {
		for j := range l[:cap(l)] {
			l[:cap(l)][j] = 1000 + i
		}
	}
	for i, l := range lists {
		if slices.ContainsFunc(l[:cap(l)], func(n int) bool { return n != 1000+i }) {
			t.Errorf("rule 3: two lists of one answer share memory: %v", lists)
		}
	}
	for i := range g.Objects {
		clear(g.Objects[i].Raws[:cap(g.Objects[i].Raws)])
	}
	for i := range g.Slots {
		clear(g.Slots[i][:cap(g.Slots[i])])
	}
	clear(g.Objects[:cap(g.Objects)])
	clear(g.Slots[:cap(g.Slots)])
	want(t, "rule 3: another answer of Read", other, mixed())
	if !bytes.Equal(b, asked(mixed())) {
		t.Errorf("rule 3: the bytes were touched: % x", b)
	}
}

// TestNilAndEmpty: a nil list and an empty one are the same.
func TestNilAndEmpty(t *testing.T) {
	g := api.Graph{Next: 1, Objects: []api.Object{}, Slots: [][][]int{{}}, Handles: []int{}, Registry: []int{}, Queue: []int{}}
	want(t, "rule 2: empty lists", written(t, g), asked(empty()))
	g = itself()
	g.Objects[0].Raws, g.Registry, g.Queue = []uint64{}, []int{}, []int{}
	want(t, "rule 2: empty lists", written(t, g), asked(itself()))
	refuses(t, "rule 2: no bytes", nil, 0, api.ErrImageShort)
	refuses(t, "rule 2: no bytes", []byte{}, 0, api.ErrImageShort)
}
