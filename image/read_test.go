package image_test

import (
	"bytes"
	"fmt"
	"slices"
	"testing"

	"midden/api"
	"midden/image"
)

// TestFirstBytes: fewer than four are too short, whichever they are.
func TestFirstBytes(t *testing.T) {
	for n := range 4 {
		refuses(t, "P16.4: cut", asked(mixed())[:n], n, api.ErrImageShort)
		refuses(t, "P16.4: others, and cut", []byte("XYZ")[:n], n, api.ErrImageShort)
	}
	for i := range 4 {
		for change := 1; change < 256; change++ {
			b := asked(mixed())
			b[i] ^= byte(change)
			refuses(t, "P16.4: others", b, 0, api.ErrImageForm)
			refuses(t, "P16.4: others, and no more", b[:4], 0, api.ErrImageForm)
		}
	}
	refuses(t, "P16.4: no Next", asked(mixed())[:4], 4, api.ErrImageShort)
}

// spoilt: bytes that stand in the place of one number, and the fault of that.
type spoilt struct {
	b    []byte
	what string
}

// bad tells bytes that are no number.
func bad() []spoilt {
	list := []spoilt{
		{bytes.Repeat([]byte{0x80}, 10), "ten groups of 0, and more"},
		{bytes.Repeat([]byte{0xff}, 10), "ten full groups, and more"},
		{bytes.Repeat([]byte{0xff}, 11), "eleven groups"},
		{append(bytes.Repeat([]byte{0xff}, 9), 0x02), "2^64 and on"},
		{append(bytes.Repeat([]byte{0x80}, 9), 0x02), "2^64"},
		{append(bytes.Repeat([]byte{0x80}, 9), 0x7f), "a full tenth group"},
	}
	for size := 2; size <= 10; size++ {
		list = append(list, spoilt{append(bytes.Repeat([]byte{0x81}, size-1), 0), fmt.Sprint(size, " groups, the last of them 0")})
	}
	return list
}

// TestEachNumber spoils each number of an image in each way: the fault is told at its place.
func TestEachNumber(t *testing.T) {
	list := figures(mixed())
	for i, f := range list {
		ahead, behind := open(list[:i]), open(list[i+1:])[4:]
		laid := func(b []byte) []byte { return whole(slices.Concat(ahead, b, behind)) }
		for _, x := range bad() {
			refuses(t, fmt.Sprint("P16.4: number ", i, ": ", x.what), laid(x.b), len(ahead), api.ErrImageForm)
		}
		for _, n := range []uint64{maxSerial + 2, 1<<63 - 1, 1 << 63, lastWord} {
			if f.kind == isRaw {
				g, sums := (&reading{b: laid(digits(n))}).asIs()
				want(t, "P16.4", sums, true)
				reads(t, "P16.4: a raw field takes all words", laid(digits(n)), g)
			} else {
				refuses(t, fmt.Sprint("P16.4: number ", i, " is ", n), laid(digits(n)), len(ahead), api.ErrImageForm)
			}
		}
		// The bytes end ahead of the number, and within numbers of all lengths.
		refuses(t, "P16.4: it ends ahead of a number", ahead, len(ahead), api.ErrImageShort)
		for size := 1; size < 10; size++ {
			b := append(slices.Clone(ahead), bytes.Repeat([]byte{0x80}, size)...)
			refuses(t, "P16.4: it ends within a number", b, len(b), api.ErrImageShort)
		}
	}
}

// TestGreatestTaken: 2^62 + 1 is taken as a number anywhere; the graph is refused for it at last, but where it may be.
func TestGreatestTaken(t *testing.T) {
	list := figures(mixed())
	for i, f := range list {
		if f.kind == isCount {
			continue
		}
		changed := slices.Clone(list)
		changed[i].n = maxSerial + 1
		b := whole(open(changed))
		if i == 0 || f.kind == isRaw {
			g, _ := (&reading{b: b}).asIs()
			reads(t, "P16.4: the greatest number", b, g)
		} else {
			refuses(t, fmt.Sprint("P16.4: number ", i, " is the greatest one"), b, 0, api.ErrImageGraph)
		}
	}
}

// TestCounts: how many there are is told to be too many where it stands, ahead of what is wrong behind it.
func TestCounts(t *testing.T) {
	list := figures(mixed())
	for i, f := range list {
		if f.kind != isCount {
			continue
		}
		ahead := open(list[:i])
		for _, left := range []int{0, 1, 4, 30, 127, 128, 300} {
			tail := bytes.Repeat([]byte{0x80}, left) // no number stands there
			many := slices.Concat(ahead, digits(uint64(left)+1), tail)
			refuses(t, fmt.Sprint("P16.4: count ", i, " is one too many"), many, len(many), api.ErrImageShort)
			for _, n := range []uint64{uint64(left) + 2, 1 << 20, 1 << 40, maxSerial, maxSerial + 1} {
				many = slices.Concat(ahead, digits(n), tail)
				refuses(t, fmt.Sprint("P16.4: count ", i, " is ", n), many, len(many), api.ErrImageShort)
			}
			if left >= 10 {
				just := slices.Concat(ahead, digits(uint64(left)), tail)
				refuses(t, fmt.Sprint("P16.4: count ", i, " is what is left"), just, len(just)-left, api.ErrImageForm)
			}
		}
	}
}

// TestCountOfWhatIsLeft: where as many bytes are left as there are to be, reading goes on into the checksum, and beyond it there is nothing.
func TestCountOfWhatIsLeft(t *testing.T) {
	b := []byte{0x4d, 0x44, 0x49, 0x31, 1, 0, 1, 0, 0, 4, 0, 0, 0, 0}
	refuses(t, "P16.4: a queue of four, and no checksum", b, 14, api.ErrImageShort)
	b = append(b, 0, 0, 0)
	refuses(t, "P16.4: three bytes of the checksum", b, 17, api.ErrImageShort)
	b = append(b, 0)
	refuses(t, "P16.4: another checksum", b, 14, api.ErrImageSum)
}

// TestChecksum: each byte of it, changed in any way; ahead of what is behind it and of what may not be.
func TestChecksum(t *testing.T) {
	b := asked(mixed())
	n := len(b) - 4
	for i := n; i < len(b); i++ {
		for change := 1; change < 256; change++ {
			c := slices.Clone(b)
			c[i] ^= byte(change)
			refuses(t, "P16.4: another checksum", c, n, api.ErrImageSum)
			refuses(t, "P16.4: another checksum, and more", append(c, 0), n, api.ErrImageSum)
		}
	}
	wrong := mixed()
	wrong.Queue = []int{1, 1}
	b = asked(wrong)
	refuses(t, "P16.4: more, and a graph that may not be", append(slices.Clone(b), 7), len(b), api.ErrImageMore)
	refuses(t, "P16.4: a graph that may not be", b, 0, api.ErrImageGraph)
	b[len(b)-1]++
	refuses(t, "P16.4: another checksum, and a graph that may not be", b, len(b)-4, api.ErrImageSum)
}

// TestSerialSums: steps of 0, sums above MaxSerial, sums that would wrap round.
func TestSerialSums(t *testing.T) {
	const great = maxSerial + 1
	for _, x := range []struct {
		what  string
		steps []uint64
		is    bool
	}{
		{"rising", []uint64{1, 1, 5}, true},
		{"the first is 0", []uint64{0, 1}, false},
		{"one isn't above the one ahead", []uint64{1, 0, 1}, false},
		{"up to MaxSerial", []uint64{1, maxSerial - 1}, true},
		{"MaxSerial alone", []uint64{maxSerial}, true},
		{"above MaxSerial", []uint64{1, maxSerial}, false},
		{"above MaxSerial alone", []uint64{great}, false},
		{"above MaxSerial, and on", []uint64{maxSerial, 1, 1}, false},
		{"above the greatest int", []uint64{great, great}, false},
		{"to 4 by wrapping round", []uint64{great, great, great, great}, false},
		{"below MaxSerial by wrapping round", []uint64{1, great, great, great, maxSerial - 4, 5}, false},
		{"back to where it was", []uint64{5, great, great, great, maxSerial - 3, 1}, false},
	} {
		g := api.Graph{Next: great, Slots: [][][]int{{{}}}}
		last := uint64(0)
		for i, step := range x.steps {
			last += step
			g.Objects = append(g.Objects, api.Object{Serial: last, Kind: api.Plain})
			g.Slots[0][0] = append(g.Slots[0][0], i+1)
		}
		if x.is {
			reads(t, "P16.4: "+x.what, asked(g), g)
		} else {
			refuses(t, "P16.4: "+x.what, asked(g), 0, api.ErrImageGraph)
		}
	}
}

// TestGraphsRefused: bytes of graphs that may not be, where all numbers are of the form.
func TestGraphsRefused(t *testing.T) {
	refused := 0
	for seed := range 3000 {
		d := dice(20000 + seed)
		list := figures(d.graph())
		for range 1 + d.below(2) {
			f := &list[d.below(len(list))]
			if f.kind != isCount {
				f.n = []uint64{0, 1, f.n + 1, f.n - f.n%2, 5, 256, maxSerial, maxSerial + 1}[d.below(8)]
			}
		}
		b := whole(open(list))
		as(t, b)
		if _, _, e := image.Read(b); e == api.ErrImageGraph {
			refused++
		}
		if t.Failed() {
			t.Fatalf("seed %d", seed)
		}
	}
	if refused < 300 || refused > 2700 {
		t.Errorf("%d of 3000 are refused: that says little", refused)
	}
}

// as holds Read of bytes to the model; what it takes, Write writes.
func as(t *testing.T, b []byte) {
	t.Helper()
	g, place, e := modelRead(b)
	if e != api.OK {
		refuses(t, "P16.4", b, place, e)
		return
	}
	reads(t, "P16.4", b, g)
	want(t, "P16.6: what Read takes Write writes", written(t, g), b)
}

// TestAsTheModel: images of which bytes are others, gone, or more, mostly with the checksum that is theirs then.
func TestAsTheModel(t *testing.T) {
	met := map[api.Errno]int{}
	for seed := range 20000 {
		d := dice(30000 + seed)
		b := open(figures(d.graph()))
		for range 1 + d.below(3) {
			b = d.spoil(b)
		}
		switch d.below(8) {
		case 0:
		case 1:
			b = d.spoil(whole(b))
		case 2:
			b = append(whole(b), byte(d.below(256)))
		default:
			b = whole(b)
		}
		as(t, b)
		_, _, e := image.Read(b)
		met[e]++
		if t.Failed() {
			t.Fatalf("seed %d", seed)
		}
	}
	for _, e := range []api.Errno{api.OK, api.ErrImageShort, api.ErrImageForm, api.ErrImageMore, api.ErrImageSum, api.ErrImageGraph} {
		if met[e] < 20 {
			t.Errorf("error %d was met %d times: that says little", e, met[e])
		}
	}
}

// spoil changes bytes in one place.
func (d *dice) spoil(b []byte) []byte {
	b = slices.Clone(b)
	at := d.below(len(b) + 1)
	till := min(len(b), at+1+d.below(3)*d.below(3))
	some := make([]byte, d.below(3))
	for i := range some {
		some[i] = byte(d.of(0, 1, 2, 3, 0x7f, 0x80, 0x81, 0xff, d.below(256)))
	}
	switch d.below(5) {
	case 0:
		return b[:at]
	case 1:
		return slices.Insert(b, at, some...)
	case 2:
		return slices.Insert(b, at, slices.Concat(bytes.Repeat([]byte{byte(0x80 + d.below(128))}, d.below(12)), some)...)
	case 3:
		return slices.Replace(b, at, till, some...)
	}
	if at < len(b) {
		b[at] = byte(d.of(0, 1, 2, int(b[at])+1, int(b[at])-1, int(b[at])^1<<d.below(8)))
	}
	return b
}

// TestAnyBytes: bytes of the dice, with the first four as they must be.
func TestAnyBytes(t *testing.T) {
	for seed := range 20000 {
		d := dice(60000 + seed)
		b := []byte{0x4d, 0x44, 0x49, 0x31}
		for range d.below(30) {
			b = append(b, byte(d.below(d.of(2, 3, 6, 256))))
		}
		as(t, b)
		as(t, whole(b))
		if t.Failed() {
			t.Fatalf("seed %d", seed)
		}
	}
}
