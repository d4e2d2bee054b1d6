package image_test

import (
	"slices"
	"testing"

	"midden/api"
	"midden/image"
)

// images tells some that are whole.
func images() [][]byte {
	list := [][]byte{asked(empty()), asked(itself()), asked(mixed())}
	for seed := range 20 {
		d := dice(90000 + seed)
		list = append(list, asked(d.graph()))
	}
	return list
}

// TestOneByteChanged: each byte, in each way.
func TestOneByteChanged(t *testing.T) {
	for _, b := range images() {
		for i := range b {
			for change := 1; change < 256; change++ {
				b[i] ^= byte(change)
				if g, _, e := image.Read(b); e == api.OK {
					t.Errorf("P16.6: byte %d changed, and taken: % x, %+v", i, b, g)
				}
				b[i] ^= byte(change)
			}
		}
	}
}

// TestCutOff: at each place; the fault is the end of the bytes.
func TestCutOff(t *testing.T) {
	for _, b := range images() {
		for n := range b {
			refuses(t, "P16.6: cut off", b[:n], n, api.ErrImageShort)
			refuses(t, "P16.6: cut off, with no room behind", slices.Clone(b[:n]), n, api.ErrImageShort)
		}
	}
}

// TestLaidBehind: one byte, several, another image.
func TestLaidBehind(t *testing.T) {
	for _, b := range images() {
		for x := range 256 {
			refuses(t, "P16.6: a byte behind", append(slices.Clone(b), byte(x)), len(b), api.ErrImageMore)
		}
		refuses(t, "P16.6: the same again behind", slices.Concat(b, b), len(b), api.ErrImageMore)
		refuses(t, "P16.6: a checksum of all that behind", whole(b), len(b), api.ErrImageMore)
	}
}

// TestOneForm: unlike graphs have unlike bytes.
func TestOneForm(t *testing.T) {
	met := map[string]api.Graph{}
	for seed := range 300 {
		d := dice(91000 + seed)
		g := d.graph()
		b := string(written(t, g))
		if is, ok := met[b]; ok {
			want(t, "P16.6: the graph of the same bytes", g, is)
		}
		met[b] = g
	}
}
