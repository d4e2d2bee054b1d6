package image_test

import (
	"bytes"
	"encoding/binary"
	"fmt"
	"hash/fnv"
	"slices"
	"testing"

	"midden/api"
	"midden/image"
)

const (
	least     = -1 << 63
	greatest  = 1<<63 - 1
	lastWord  = 1<<64 - 1
	maxSerial = 1 << 62 // by its number: the chapter's bounds hang on it
)

// empty is the first example's graph, itself the second one's.
func empty() api.Graph { return api.Graph{Next: 1, Slots: [][][]int{nil}} }

func itself() api.Graph {
	return api.Graph{Next: 4, Objects: []api.Object{{Serial: 3, Kind: api.Plain, Site: 7, Ptrs: []int{1}}}, Slots: [][][]int{{{1}}}, Handles: []int{-1}}
}

// mixed has something of everything: all kinds, threads with frames and without, handles of all sorts, a registry and a queue.
func mixed() api.Graph {
	return api.Graph{
		Objects: []api.Object{
			{Serial: 2, Kind: api.Plain, Site: 255, Ptrs: []int{3, 0}, Raws: []uint64{0, 127, 128}},
			{Serial: 300, Kind: api.Weak, Ptrs: []int{4}, Raws: []uint64{lastWord}},
			{Serial: 301, Kind: api.Ephemeron, Site: 128, Ptrs: []int{2, 5, 1}},
			{Serial: 20000, Kind: api.Final, Site: 1, Ptrs: []int{6}},
			{Serial: 20001, Kind: api.Final},
			{Serial: maxSerial - 5, Kind: api.Plain, Site: 9, Raws: []uint64{1 << 62, 1 << 63}},
		},
		Slots:    [][][]int{{{0, 2}, {1}, {0, 0, 5}}, nil, {{6}}},
		Handles:  []int{-1, 1, 0, 6},
		Registry: []int{4, 5},
		Queue:    []int{3, 1},
		Next:     maxSerial + 1,
	}
}

// figure: a number of an image, and what it is for.
type figure struct {
	n    uint64
	kind int
}

const (
	isCount = iota
	isRaw
	isOther
)

// figures tells the numbers of a graph in the order of P16.2.
func figures(g api.Graph) []figure {
	l := []figure{{g.Next, isOther}, {uint64(len(g.Objects)), isCount}}
	all := func(list []int, more int) {
		l = append(l, figure{uint64(len(list)), isCount})
		for _, n := range list {
			l = append(l, figure{uint64(n + more), isOther})
		}
	}
	last := uint64(0)
	for _, o := range g.Objects {
		l = append(l, figure{o.Serial - last, isOther}, figure{uint64(o.Kind), isOther}, figure{uint64(o.Site), isOther})
		last = o.Serial
		all(o.Ptrs, 0)
		l = append(l, figure{uint64(len(o.Raws)), isCount})
		for _, w := range o.Raws {
			l = append(l, figure{w, isRaw})
		}
	}
	l = append(l, figure{uint64(len(g.Slots)), isCount})
	for _, frames := range g.Slots {
		l = append(l, figure{uint64(len(frames)), isCount})
		for _, slots := range frames {
			all(slots, 0)
		}
	}
	all(g.Handles, 1)
	all(g.Queue, 0)
	return l
}

// digits tells a number's bytes.
func digits(n uint64) []byte { return binary.AppendUvarint(nil, n) }

// open tells an image's bytes without the checksum.
func open(list []figure) []byte {
	b := []byte{0x4d, 0x44, 0x49, 0x31}
	for _, f := range list {
		b = append(b, digits(f.n)...)
	}
	return b
}

// whole tells bytes with their checksum behind.
func whole(b []byte) []byte {
	sum := fnv.New32a()
	sum.Write(b)
	return binary.LittleEndian.AppendUint32(slices.Clone(b), sum.Sum32())
}

// asked tells what Write is to answer of a graph that may be.
func asked(g api.Graph) []byte { return whole(open(figures(g))) }

func written(t *testing.T, g api.Graph) []byte {
	t.Helper()
	b, e := image.Write(g)
	if e != api.OK || !bytes.Equal(b, asked(g)) {
		t.Fatalf("P16.2, P16.3: Write(%+v): % x, error %d, want % x", g, b, e, asked(g))
	}
	return b
}

// reads holds Read of bytes to a graph.
func reads(t *testing.T, promise string, b []byte, is api.Graph) {
	t.Helper()
	g, place, e := image.Read(b)
	if place != 0 || e != api.OK {
		t.Errorf("%s: Read(% x): error %d at %d", promise, b, e, place)
	}
	want(t, promise, g, is)
}

// refuses holds Read of bytes to an error and its place.
func refuses(t *testing.T, promise string, b []byte, at int, why api.Errno) {
	t.Helper()
	g, place, e := image.Read(b)
	if place != at || e != why {
		t.Errorf("%s: Read(% x): error %d at %d, want %d at %d", promise, b, e, place, why, at)
	}
	if g.Objects != nil || g.Slots != nil || g.Handles != nil || g.Registry != nil || g.Queue != nil || g.Next != 0 {
		t.Errorf("P16.4: Read(% x) answers a graph beside its error: %+v", b, g)
	}
}

func want(t *testing.T, what string, got, want any) {
	t.Helper()
	if g, w := fmt.Sprint(got), fmt.Sprint(want); g != w {
		t.Errorf("%s: %s, want %s", what, g, w)
	}
}

// dice: numbers that look like chance and are the same at every run.
type dice uint64

func (d *dice) word() uint64 {
	*d += 0x9e3779b97f4a7c15
	x := uint64(*d)
	x = (x ^ x>>30) * 0xbf58476d1ce4e5b9
	x = (x ^ x>>27) * 0x94d049bb133111eb
	return x ^ x>>31
}

func (d *dice) below(n int) int { return int(d.word() % uint64(n)) }

func (d *dice) of(list ...int) int { return list[d.below(len(list))] }

// sized tells a number of any size.
func (d *dice) sized() uint64 { return d.word() >> d.below(64) }

// some tells a list of up to most numbers below a bound.
func (d *dice) some(most, bound int) []int {
	l := make([]int, d.below(most+1))
	for i := range l {
		l[i] = d.below(bound)
	}
	return l
}

// fewest tells how many pointer fields a kind needs.
var fewest = map[int]int{api.Plain: 0, api.Weak: 1, api.Ephemeron: 2, api.Final: 0}

// graph tells a graph that may be.
func (d *dice) graph() api.Graph {
	n := d.below(8)
	g := api.Graph{Next: 1}
	for range n {
		kind := d.of(api.Plain, api.Weak, api.Ephemeron, api.Final)
		o := api.Object{Serial: g.Next + d.sized()>>10, Kind: kind, Site: d.below(256), Ptrs: append(d.some(3, n+1), make([]int, fewest[kind])...)}
		for range d.below(4) {
			o.Raws = append(o.Raws, d.sized())
		}
		g.Objects = append(g.Objects, o)
		g.Next = o.Serial + 1
	}
	g.Next += d.sized() >> 10
	for range 1 + d.below(3) {
		var frames [][]int
		for range d.below(3) {
			frames = append(frames, append(d.some(3, n+1), d.below(n+1)))
		}
		g.Slots = append(g.Slots, frames)
	}
	for range d.below(4) {
		g.Handles = append(g.Handles, d.below(n+2)-1)
	}
	for i, o := range g.Objects {
		switch {
		case o.Kind == api.Final:
			g.Registry = append(g.Registry, i+1)
		case d.below(4) == 0:
			g.Queue = slices.Insert(g.Queue, d.below(len(g.Queue)+1), i+1)
		}
	}
	for i, is := range known(g) {
		if !is {
			g.Slots[0] = append(g.Slots[0], []int{i + 1})
		}
	}
	return g
}
