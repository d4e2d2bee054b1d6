package image_test

import (
	"bytes"
	"testing"

	"midden/api"
	"midden/image"
)

// TestNumbersOfAllLengths: one to ten bytes, at the edges of each.
func TestNumbersOfAllLengths(t *testing.T) {
	g := itself()
	first := 4 + 8 // behind the first four bytes, Next, how many objects, serial, kind, site, how many fields, the field, how many raw ones
	for size := 1; size <= 10; size++ {
		low, high := uint64(1)<<(7*size-7), uint64(1)<<(7*size)-1
		if size == 1 {
			low = 0
		}
		if size == 10 {
			high = lastWord
		}
		for _, w := range []uint64{low, low + 1, low + (high-low)/3, high - 1, high} {
			g.Objects[0].Raws = []uint64{w}
			b := written(t, g)
			if n := len(b) - len(written(t, itself())); n != size {
				t.Errorf("P16.2: %#x takes %d bytes, want %d", w, n, size)
			}
			stands := b[first : first+size]
			for i, x := range stands {
				if more := i < size-1; x >= 0x80 != more || uint64(x%0x80) != w>>(7*i)%0x80 {
					t.Errorf("P16.2: %#x stands as % x", w, stands)
					break
				}
			}
			reads(t, "P16.6", b, g)
		}
	}
}

// TestGreatestNumbers: Next, and a serial with one right ahead of it.
func TestGreatestNumbers(t *testing.T) {
	g := itself()
	g.Objects[0].Serial, g.Next = maxSerial, maxSerial+1
	reads(t, "P16.6: the greatest serial", written(t, g), g)
	g.Objects = append(g.Objects[:0:0], api.Object{Serial: 1, Kind: api.Plain, Ptrs: []int{2}}, g.Objects[0])
	reads(t, "P16.6: the greatest step of serials", written(t, g), g)
	g.Objects[0].Serial = maxSerial - 1
	reads(t, "P16.6: the least step of serials", written(t, g), g)
}

// TestGreatGraphs: as many of everything as there may be.
func TestGreatGraphs(t *testing.T) {
	g := api.Graph{Next: 1000, Handles: make([]int, 1024)}
	for range 8 {
		var frames [][]int
		for range 4096 {
			frames = append(frames, []int{2})
		}
		g.Slots = append(g.Slots, frames)
	}
	g.Objects = []api.Object{{Serial: 1, Kind: api.Final, Site: 255, Ptrs: make([]int, 4095), Raws: make([]uint64, 65535)}, {Serial: 900, Kind: api.Ephemeron, Site: 128, Ptrs: make([]int, 4095)}}
	for i := range g.Objects[0].Raws {
		g.Objects[0].Raws[i] = uint64(i) * 0x1234567890ab
	}
	for i := range 4095 {
		g.Objects[0].Ptrs[i], g.Objects[1].Ptrs[i] = i%3, 2-i%3
	}
	g.Registry, g.Queue = []int{1}, []int{2}
	for i := range g.Handles {
		g.Handles[i] = i%4 - 1
	}
	b, e := image.Write(g)
	if e != api.OK || !bytes.Equal(b, asked(g)) {
		t.Fatalf("P16.2: a great graph: %d bytes, error %d", len(b), e)
	}
	reads(t, "P16.6: a great graph", b, g)
}

// TestGraphsOfTheDice: bytes, there and back.
func TestGraphsOfTheDice(t *testing.T) {
	for seed := range 1000 {
		d := dice(10000 + seed)
		g := d.graph()
		b := written(t, g)
		reads(t, "P16.6", b, g)
		again, _, _ := image.Read(b)
		want(t, "P16.6: what Read takes Write writes", written(t, again), b)
	}
}
