package cell_test

import (
	"testing"

	"midden/api"
	"midden/cell"
)

const most = 1 << 40

// asked: the bits of a head as the chapter's numbers count them (P2.1), by multiplication, for heads that may be.
func asked(h api.Head) uint64 {
	w := 1 + uint64(h.Kind)*4 + uint64(h.Age)*64 + uint64(h.Site)*1024 + uint64(h.Ptrs)*262144 + uint64(h.Raws)*1073741824
	if h.Held {
		w += 32
	}
	return w
}

// faulty: the first reason of P2.2, counted out kind by kind.
func faulty(h api.Head) api.Errno {
	switch h.Kind {
	case api.Plain, api.Final:
	case api.Weak:
		if h.Ptrs < 1 {
			return api.ErrCellKind
		}
	case api.Ephemeron:
		if h.Ptrs < 2 {
			return api.ErrCellKind
		}
	default:
		return api.ErrCellKind
	}
	if h.Ptrs < 0 || h.Ptrs > 4095 {
		return api.ErrCellPtrs
	}
	if h.Raws < 0 || h.Raws > 65535 {
		return api.ErrCellRaws
	}
	if h.Age < 0 || h.Age > 15 {
		return api.ErrCellAge
	}
	if h.Site < 0 || h.Site > 255 {
		return api.ErrCellSite
	}
	return api.OK
}

// apart reads a word by division: the head that it would tell, and whether it is one.
func apart(w uint64) (api.Head, bool) {
	if w%4 != 1 || w/(1<<46) != 0 {
		return api.Head{}, false
	}
	h := api.Head{Kind: int(w / 4 % 8), Held: w/32%2 == 1, Age: int(w / 64 % 16), Site: int(w / 1024 % 256), Ptrs: int(w / 262144 % 4096), Raws: int(w / 1073741824 % 65536)}
	if faulty(h) != api.OK {
		return api.Head{}, false
	}
	return h, true
}

// behind reads the number behind a tag by division.
func behind(w, tag uint64) (int, bool) {
	if w%4 != tag || w/4 < 1 || w/4 > most {
		return 0, false
	}
	return int(w / 4), true
}

func pack(t *testing.T, h api.Head) uint64 {
	t.Helper()
	w, e := cell.Pack(h)
	if e != api.OK {
		t.Fatalf("P2.5: Pack(%+v): error %d", h, e)
	}
	return w
}

// checkWord holds all that is told of a word against the chapter's arithmetic.
func checkWord(t *testing.T, w uint64) {
	t.Helper()
	h, isHead := apart(w)
	to, isForward := behind(w, 2)
	words, isFiller := behind(w, 3)
	if g, ok := cell.Unpack(w); g != h || ok != isHead {
		t.Errorf("P2.1, P2.5: Unpack(%#x) = %+v, %v, want %+v, %v", w, g, ok, h, isHead)
	}
	if g, ok := cell.Forwarded(w); g != to || ok != isForward {
		t.Errorf("P2.3, P2.6: Forwarded(%#x) = %d, %v, want %d, %v", w, g, ok, to, isForward)
	}
	if g, ok := cell.Filled(w); g != words || ok != isFiller {
		t.Errorf("P2.4, P2.6: Filled(%#x) = %d, %v, want %d, %v", w, g, ok, words, isFiller)
	}
	size := words
	if isHead {
		size = 2 + h.Ptrs + h.Raws
	}
	if g := cell.Size(w); g != size {
		t.Errorf("P2.7: Size(%#x) = %d, want %d", w, g, size)
	}
	if isHead {
		checkChanges(t, w, h)
	} else {
		checkStays(t, w)
	}
}

func checkStays(t *testing.T, w uint64) {
	t.Helper()
	for _, n := range edges {
		if a, k := cell.WithAge(w, n), cell.WithKind(w, n); a != w || k != w {
			t.Errorf("P2.8: %#x is no header, but WithAge(%d) = %#x, WithKind(%d) = %#x", w, n, a, n, k)
		}
	}
	if y, n := cell.WithHeld(w, true), cell.WithHeld(w, false); y != w || n != w {
		t.Errorf("P2.8: %#x is no header, but WithHeld = %#x, %#x", w, y, n)
	}
}

func checkChanges(t *testing.T, w uint64, h api.Head) {
	t.Helper()
	for _, n := range edges {
		aged, turned := h, h
		aged.Age, turned.Kind = n, n
		checkChanged(t, "WithAge", w, aged, cell.WithAge(w, n))
		checkChanged(t, "WithKind", w, turned, cell.WithKind(w, n))
	}
	for _, is := range []bool{true, false} {
		held := h
		held.Held = is
		checkChanged(t, "WithHeld", w, held, cell.WithHeld(w, is))
	}
}

func checkChanged(t *testing.T, call string, w uint64, h api.Head, got uint64) {
	t.Helper()
	want := w
	if faulty(h) == api.OK {
		want = asked(h)
	}
	if got != want {
		t.Errorf("P2.8: %s of %#x to %+v: %#x, want %#x", call, w, h, got, want)
	}
}

// edges are numbers in and about every part's bounds.
var edges = []int{-1 << 63, -1<<63 + 1, -1 << 32, -65536, -4096, -256, -16, -8, -2, -1, 0, 1, 2, 3, 4, 5, 7, 8, 9, 14, 15, 16, 17, 31, 32, 254, 255, 256, 257, 4094, 4095, 4096, 4097, 65534, 65535, 65536, 65537, 1 << 32, 1<<32 + 1, 1<<62 + 1, 1<<63 - 1}

// dice: numbers that look like chance and are the same at every run.
type dice uint64

func (d *dice) word() uint64 {
	*d += 0x9e3779b97f4a7c15
	z := uint64(*d)
	z = (z ^ z>>30) * 0xbf58476d1ce4e5b9
	z = (z ^ z>>27) * 0x94d049bb133111eb
	return z ^ z>>31
}

func (d *dice) below(n int) int { return int(d.word() % uint64(n)) }
