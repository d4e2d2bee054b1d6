package cell_test

import (
	"testing"

	"midden/api"
	"midden/cell"
)

func TestForwardAndFillerOfBounds(t *testing.T) {
	for _, n := range []int{-1 << 63, -1 << 62, -most, -1, 0, most + 1, 1 << 41, 1<<61 + 1, 1<<62 + 5, 1<<63 - 1} {
		if f, g := cell.Forward(n), cell.Filler(n); f != 0 || g != 0 {
			t.Errorf("P2.6: Forward(%d) = %#x, Filler = %#x, want 0", n, f, g)
		}
	}
	for _, n := range []int{1, 2, 3, 4, 5, 1 << 16, 1<<32 - 1, 1 << 32, most - 1, most} {
		f, g := cell.Forward(n), cell.Filler(n)
		if f != uint64(n)*4+2 {
			t.Errorf("P2.3: Forward(%d) = %#x", n, f)
		}
		if g != uint64(n)*4+3 {
			t.Errorf("P2.4: Filler(%d) = %#x", n, g)
		}
		if to, ok := cell.Forwarded(f); to != n || !ok {
			t.Errorf("P2.9: Forwarded(Forward(%d)) = %d, %v", n, to, ok)
		}
		if words, ok := cell.Filled(g); words != n || !ok || cell.Size(g) != n {
			t.Errorf("P2.7, P2.9: Filled(Filler(%d)) = %d, %v, size %d", n, words, ok, cell.Size(g))
		}
	}
}

func TestWordsBeyondTheBounds(t *testing.T) {
	for _, w := range []uint64{2, 3, (most+1)*4 + 2, (most+1)*4 + 3, 1<<63 | 6, 1<<63 | 7, 1<<64 - 1, 1<<64 - 2} {
		checkWord(t, w)
		if cell.Size(w) != 0 {
			t.Errorf("P2.7: Size(%#x) = %d, want 0", w, cell.Size(w))
		}
	}
}

func TestWordsOfNoForm(t *testing.T) {
	whole := pack(t, api.Head{Kind: api.Final, Ptrs: 4095, Raws: 65535, Age: 15, Site: 255, Held: true})
	for bit := 46; bit < 64; bit++ {
		for _, w := range []uint64{5, whole} {
			checkWord(t, w|1<<bit)
			if h, ok := cell.Unpack(w | 1<<bit); ok || h != (api.Head{}) {
				t.Errorf("P2.1: bit %d of %#x isn't 0: %+v, %v", bit, w, h, ok)
			}
		}
	}
	for _, kind := range []uint64{0, 5, 6, 7} {
		if _, ok := cell.Unpack(1 | kind<<2 | 3<<18); ok {
			t.Errorf("P2.1: a header of kind %d", kind)
		}
	}
	for _, w := range []uint64{1 | api.Weak<<2, 1 | api.Ephemeron<<2, 1 | api.Ephemeron<<2 | 1<<18} {
		if h, ok := cell.Unpack(w); ok || h != (api.Head{}) {
			t.Errorf("P2.1: %#x wants pointer fields: %+v, %v", w, h, ok)
		}
	}
}

// TestLowWords goes through every word of the lowest bits: every tag, kind, age and a few sites.
func TestLowWords(t *testing.T) {
	for w := range uint64(1 << 14) {
		checkWord(t, w)
		checkWord(t, w|1<<18)
		checkWord(t, w|2<<18)
	}
}

// TestWordsByChance asks for words of which few bits, or many, are 1.
func TestWordsByChance(t *testing.T) {
	d := dice(2)
	for range 20000 {
		w := d.word()
		checkWord(t, w)
		checkWord(t, w>>d.below(64))
		checkWord(t, w&d.word()&d.word())
		checkWord(t, w>>18)
	}
}

func TestNoWordIsOfTwoForms(t *testing.T) {
	d := dice(3)
	seen := [4]int{}
	for range 200000 {
		w := d.word() >> d.below(64)
		forms := 0
		if h, ok := cell.Unpack(w); ok {
			forms, seen[1] = forms+1, seen[1]+1
			if p, e := cell.Pack(h); p != w || e != api.OK {
				t.Errorf("P2.9: Pack of Unpack(%#x) = %#x, %d", w, p, e)
			}
		}
		if to, ok := cell.Forwarded(w); ok {
			forms, seen[2] = forms+1, seen[2]+1
			if cell.Forward(to) != w {
				t.Errorf("P2.9: Forward of Forwarded(%#x) = %#x", w, cell.Forward(to))
			}
		}
		if words, ok := cell.Filled(w); ok {
			forms, seen[3] = forms+1, seen[3]+1
			if cell.Filler(words) != w {
				t.Errorf("P2.9: Filler of Filled(%#x) = %#x", w, cell.Filler(words))
			}
		}
		if forms > 1 {
			t.Errorf("P2.9: %#x is of %d forms", w, forms)
		}
	}
	for form := 1; form < 4; form++ {
		if seen[form] < 1000 {
			t.Errorf("the form %d was met %d times: the test asks too little", form, seen[form])
		}
	}
}

func TestExampleOfOthers(t *testing.T) {
	if cell.Forward(5) != 22 || cell.Forward(0) != 0 || cell.Forward(1<<40+1) != 0 {
		t.Errorf("P2.6: Forward: %d, %d, %d", cell.Forward(5), cell.Forward(0), cell.Forward(1<<40+1))
	}
	if to, ok := cell.Forwarded(22); to != 5 || !ok {
		t.Errorf("P2.6: Forwarded(22) = %d, %v", to, ok)
	}
	if words, ok := cell.Filled(7); cell.Filler(1) != 7 || words != 1 || !ok {
		t.Errorf("P2.6: Filler(1) = %d, Filled(7) = %d, %v", cell.Filler(1), words, ok)
	}
	if cell.Size(7) != 1 || cell.Size(22) != 0 {
		t.Errorf("P2.7: Size(7) = %d, Size(22) = %d", cell.Size(7), cell.Size(22))
	}
	for _, w := range []uint64{1, 1<<46 + 1 + 4} {
		if _, ok := cell.Unpack(w); ok {
			t.Errorf("P2.1: Unpack(%d) is a header", w)
		}
	}
}
