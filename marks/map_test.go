package marks_test

import (
	"fmt"
	"testing"

	"midden/api"
	"midden/marks"
)

func TestNewGivesAMapWithoutMarks(t *testing.T) {
	for _, words := range append(sizes, limit-1, limit) {
		m := made(t, words)
		want(t, "P4.1: Words", m.Words(), words)
		want(t, "P4.1: Next", m.Next(0), -1)
		want(t, "P4.1: Count", m.Count(0, words), 0)
		want(t, "P4.1: Runs", len(runs(m.Runs())), 0)
		want(t, "P4.1: Has", m.Has(0) || m.Has(words-1) || m.Has(words), false)
	}
}

func TestNewRefusesSizes(t *testing.T) {
	for _, words := range odd {
		if words == limit {
			continue
		}
		if m, e := marks.New(words); m != nil || e != api.ErrMarksSize {
			t.Errorf("P4.1: New(%d): %v, %d", words, m, e)
		}
	}
}

func TestSetMarksJustItsWords(t *testing.T) {
	for _, words := range []int{1, 64, 65, 130} {
		for from := 0; from <= words; from++ {
			for n := 0; n <= words-from; n++ {
				m, l := made(t, words), make(model, words)
				ok, e := m.Set(from, n)
				if !l.set(from, n) || !ok || e != api.OK {
					t.Fatalf("P4.2: %d words: Set(%d, %d): %v, %d", words, from, n, ok, e)
				}
				if m.Count(0, words) != n || fmt.Sprint(modelled(m)) != fmt.Sprint(l) {
					t.Fatalf("P4.2: %d words: Set(%d, %d) marks others", words, from, n)
				}
			}
		}
	}
}

func TestSetTellsWhetherNoneWasMarked(t *testing.T) {
	for at := range 200 {
		for _, s := range []run{{0, 200}, {60, 10}, {63, 1}, {64, 64}, {128, 0}, {10, 120}, {199, 1}} {
			m := made(t, 200)
			set(t, m, at, 1)
			ok, e := m.Set(s.first, s.n)
			if ok != (at < s.first || at >= s.first+s.n) || e != api.OK {
				t.Errorf("P4.2: word %d marked: Set(%d, %d): %v, %d", at, s.first, s.n, ok, e)
			}
			want(t, "P4.2: marked behind it", m.Has(at), true)
			again, _ := m.Set(s.first, s.n)
			want(t, "P4.2: the same once more", again, s.n == 0)
		}
	}
}

func TestSetOfNothing(t *testing.T) {
	for _, words := range sizes {
		m := made(t, words)
		set(t, m, 0, words)
		for from := 0; from <= words; from++ {
			if ok, e := m.Set(from, 0); !ok || e != api.OK {
				t.Errorf("P4.2: %d words, all marked: Set(%d, 0): %v, %d", words, from, ok, e)
			}
		}
	}
}

func TestSetRefusesWordsBeyond(t *testing.T) {
	for _, words := range sizes {
		m := made(t, words)
		set(t, m, words/3, words/3)
		l := modelled(m)
		refused := func(from, n int) {
			t.Helper()
			if ok, e := m.Set(from, n); ok || e != api.ErrMarksRange {
				t.Errorf("P4.2: %d words: Set(%d, %d): %v, %d", words, from, n, ok, e)
			}
		}
		for _, x := range odd {
			refused(x, 0)
			refused(x, 1)
			refused(0, x)
			refused(words, x)
			for _, y := range odd {
				refused(x, y)
			}
		}
		for from := 0; from <= words+1; from++ {
			refused(from, words-from+1)
			refused(from, words+1)
			refused(from, -1)
			refused(from, most-from+1)
			refused(-1, from)
		}
		refused(words+1, 0)
		l.holds(t, "behind refusals", m)
	}
}

func TestAskingBeyondTheWords(t *testing.T) {
	for _, words := range sizes {
		m := made(t, words)
		set(t, m, 0, words)
		first := 0
		if words == 0 {
			first = -1
		}
		for _, x := range odd {
			want(t, "P4.3: Has", m.Has(x), false)
			if x < 0 {
				want(t, "P4.3: Next below", m.Next(x), first)
				want(t, "P4.3: Count from below", m.Count(x, words), words)
				want(t, "P4.3: Count behind below", m.Count(0, x), 0)
			} else {
				want(t, "P4.3: Next above", m.Next(x), -1)
				want(t, "P4.3: Count behind above", m.Count(0, x), words)
				want(t, "P4.3: Count from above", m.Count(x, words), 0)
			}
			for _, y := range odd {
				n := 0
				if x < 0 && y > 0 {
					n = words
				}
				want(t, "P4.3: Count", m.Count(x, y), n)
			}
		}
		want(t, "P4.3: Next", m.Next(words), -1)
		want(t, "P4.3: Has", m.Has(words), false)
	}
}

func TestCountOfEveryPiece(t *testing.T) {
	d := dice(3)
	for range 4 {
		m, l := d.marked(t, 150)
		for from := -2; from < 153; from++ {
			for behind := -2; behind < 153; behind++ {
				if n := m.Count(from, behind); n != l.count(from, behind) {
					t.Fatalf("P4.3: %v: Count(%d, %d): %d, want %d", l.runs(), from, behind, n, l.count(from, behind))
				}
			}
		}
	}
}

// Each word of bits may look like anything: one half byte after the other, and many mixtures.
func TestCountOfAllHalfBytes(t *testing.T) {
	d := dice(4)
	var looks []uint64
	for half := range uint64(16) {
		for at := 0; at < 64; at += 4 {
			looks = append(looks, half<<at)
		}
	}
	for range 200 {
		looks = append(looks, d.word(), d.word()|d.word(), d.word()&d.word())
	}
	for _, w := range looks {
		m, l := made(t, 192), make(model, 192)
		for at := range 64 {
			if w>>at&1 == 1 {
				set(t, m, 64+at, 1)
				l.set(64+at, 1)
			}
		}
		l.holds(t, fmt.Sprintf("bits %x", w), m)
	}
}

func TestClear(t *testing.T) {
	d := dice(5)
	for _, words := range sizes {
		m, _ := d.marked(t, words)
		m.Clear()
		make(model, words).holds(t, "cleared", m)
		ok, e := m.Set(0, words)
		if !ok || e != api.OK {
			t.Errorf("P4.3: %d words, cleared: Set: %v, %d", words, ok, e)
		}
		want(t, "P4.3: Count", m.Count(0, words), words)
	}
	m := made(t, limit)
	set(t, m, 0, limit)
	want(t, "P4.3: Count", m.Count(0, limit), limit)
	m.Clear()
	want(t, "P4.3: Count", m.Count(0, limit), 0)
}

func TestMapsAreApart(t *testing.T) {
	a, b := made(t, 100), made(t, 100)
	set(t, a, 10, 80)
	make(model, 100).holds(t, "another one is marked", b)
	set(t, b, 0, 5)
	a.Clear()
	want(t, "P4.3: another one is cleared", b.Count(0, 100), 5)
}

func TestMapAgainstTheModel(t *testing.T) {
	d := dice(6)
	for _, words := range append(sizes, 700) {
		m, l := made(t, words), make(model, words)
		for range 60 {
			if d.below(12) == 0 {
				m.Clear()
				clear(l)
			}
			from, n := d.below(words+3)-1, d.below(1+d.below(words+2))
			ok, e := m.Set(from, n)
			if from < 0 || from+n > words {
				want(t, "P4.2: beyond", fmt.Sprint(ok, int(e)), fmt.Sprint(false, int(api.ErrMarksRange)))
			} else {
				want(t, "P4.2: Set", fmt.Sprint(ok, int(e)), fmt.Sprint(l.set(from, n), 0))
			}
			l.holds(t, fmt.Sprintf("%d words, Set(%d, %d)", words, from, n), m)
			x, y := d.below(words+5)-2, d.below(words+5)-2
			want(t, "P4.3: Count", m.Count(x, y), l.count(x, y))
		}
	}
}

func TestCountIsTheSumOfItsParts(t *testing.T) {
	d := dice(7)
	for range 200 {
		words := d.below(600)
		m, _ := d.marked(t, words)
		ends := []int{d.below(words+9) - 4, d.below(words+9) - 4, d.below(words+9) - 4}
		from, cut, behind := min(ends[0], ends[1], ends[2]), ends[0]+ends[1]+ends[2], max(ends[0], ends[1], ends[2])
		cut -= from + behind
		want(t, "P4.8: Count cut in two", m.Count(from, cut)+m.Count(cut, behind), m.Count(from, behind))
		sum := 0
		for _, n := range m.Runs() {
			sum += n
		}
		want(t, "P4.8: the lengths of the runs", sum, m.Count(0, m.Words()))
	}
}
