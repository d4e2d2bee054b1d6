package marks_test

import (
	"testing"

	"midden/api"
	"midden/marks"
)

// goes holds a slide against P4.6's words, reckoned from the marks as they were when it was made.
func (l model) goes(t *testing.T, when string, s *marks.Slide, from, behind, base int) {
	t.Helper()
	total := 0
	for at := -2; at < len(l)+66; at++ {
		to, ok := s.To(at)
		if at < from || at >= behind || !l[at] {
			if to != 0 || ok {
				t.Errorf("P4.6: %s: To(%d): %d, %v, want none", when, at, to, ok)
			}
			continue
		}
		if to != base+total || !ok {
			t.Errorf("P4.6: %s: To(%d): %d, %v, want %d", when, at, to, ok, base+total)
		}
		if back, ok := s.Back(base + total); back != at || !ok {
			t.Errorf("P4.6: %s: Back(%d): %d, %v, want %d", when, base+total, back, ok, at)
		}
		total++
	}
	want(t, "P4.6: "+when+": Total", s.Total(), total)
	for _, to := range []int{base - 65, base - 2, base - 1, base + total, base + total + 1, base + total + 64} {
		if back, ok := s.Back(to); back != 0 || ok {
			t.Errorf("P4.6: %s: Back(%d): %d, %v, want none", when, to, back, ok)
		}
	}
}

func TestSlideOfEveryPiece(t *testing.T) {
	d := dice(11)
	for range 3 {
		m, l := d.marked(t, 140)
		for from := 0; from <= 140; from += 1 + d.below(3) {
			for behind := from; behind <= 140; behind += 1 + d.below(3) {
				l.goes(t, "a piece", slid(t, m, from, behind, from), from, behind, from)
			}
		}
	}
}

func TestSlideOfNothing(t *testing.T) {
	for _, words := range sizes {
		m := made(t, words)
		set(t, m, 0, words)
		for at := 0; at <= words; at++ {
			modelled(m).goes(t, "no words", slid(t, m, at, at, 1), at, at, 1)
		}
		m.Clear()
		make(model, words).goes(t, "no marks", slid(t, m, 0, words, 0), 0, words, 0)
	}
}

func TestSlideToManyBases(t *testing.T) {
	d := dice(12)
	for _, base := range []int{0, 1, 2, 63, 64, 65, 100, 1000, limit - 1, limit} {
		m, l := d.marked(t, 300)
		l.goes(t, "a base", slid(t, m, 20, 290, base), 20, 290, base)
		set(t, m, 0, 300)
		modelled(m).goes(t, "all marked", slid(t, m, 0, 300, base), 0, 300, base)
	}
}

func TestSlideOfTheGreatestMap(t *testing.T) {
	m := made(t, limit)
	set(t, m, 0, limit)
	s := slid(t, m, 0, limit, limit)
	want(t, "P4.6: Total", s.Total(), limit)
	for _, at := range []int{0, 1, 63, 64, limit / 2, limit - 64, limit - 1} {
		to, ok := s.To(at)
		back, okToo := s.Back(limit + at)
		if to != limit+at || !ok || back != at || !okToo {
			t.Errorf("P4.6: To(%d): %d, %v; Back: %d, %v", at, to, ok, back, okToo)
		}
	}
	want(t, "P4.6: beyond it", nothing(s.To(limit)) && nothing(s.Back(2*limit)) && nothing(s.Back(limit-1)), true)
	m.Clear()
	set(t, m, limit-1, 1)
	s = slid(t, m, 0, limit, 0)
	to, ok := s.To(limit - 1)
	back, okToo := s.Back(0)
	if to != 0 || !ok || back != limit-1 || !okToo {
		t.Errorf("P4.6: the last word alone: To: %d, %v; Back: %d, %v", to, ok, back, okToo)
	}
}

func nothing(n int, ok bool) bool { return n == 0 && !ok }

func TestSlideTakesAllNumbers(t *testing.T) {
	m := made(t, 200)
	set(t, m, 0, 200)
	for _, base := range []int{0, 1, 64, limit} {
		s := slid(t, m, 0, 200, base)
		for _, x := range odd {
			if !nothing(s.To(x)) {
				t.Errorf("P4.6: base %d: To(%d) is told", base, x)
			}
			if (x < base || x >= base+200) && !nothing(s.Back(x)) {
				t.Errorf("P4.6: base %d: Back(%d) is told", base, x)
			}
		}
	}
}

func TestSlideRefuses(t *testing.T) {
	for _, words := range sizes {
		m := made(t, words)
		set(t, m, 0, words)
		refused := func(from, behind, base int) {
			t.Helper()
			if s, e := m.Slide(from, behind, base); s != nil || e != api.ErrMarksRange {
				t.Errorf("P4.5: %d words: Slide(%d, %d, %d): %v, %d", words, from, behind, base, s, e)
			}
		}
		for _, x := range odd {
			refused(x, words, 0)
			refused(0, x, 0)
			refused(x, x, 0)
			if x != limit {
				refused(0, words, x)
				refused(words, words, x)
			}
			for _, y := range odd {
				refused(x, y, 0)
				refused(x, y, x)
			}
		}
		for at := 0; at <= words; at++ {
			refused(at+1, at, 0)
			refused(at, words+1, 0)
			refused(-1, at, 0)
			refused(at, words, -1)
			refused(at, words, limit+1)
		}
		make(model, words).all().holds(t, "behind refusals", m)
	}
}

func (l model) all() model {
	l.set(0, len(l))
	return l
}

func TestSlideTakesTheEdges(t *testing.T) {
	m := made(t, 100)
	set(t, m, 0, 100)
	for _, c := range [][3]int{{0, 100, 0}, {0, 0, 0}, {100, 100, 0}, {0, 100, limit}, {99, 100, limit}, {100, 100, limit}} {
		s := slid(t, m, c[0], c[1], c[2])
		want(t, "P4.5: Total", s.Total(), c[1]-c[0])
	}
	want(t, "P4.5: of no words", slid(t, made(t, 0), 0, 0, 0).Total(), 0)
}

func TestSlideStays(t *testing.T) {
	d := dice(13)
	for range 20 {
		m, l := d.marked(t, 260)
		s := slid(t, m, 10, 250, 10)
		m.Clear()
		l.goes(t, "cleared since", s, 10, 250, 10)
		set(t, m, 0, 260)
		l.goes(t, "filled since", s, 10, 250, 10)
		modelled(m).goes(t, "another one", slid(t, m, 0, 260, 0), 0, 260, 0)
		l.goes(t, "another one made since", s, 10, 250, 10)
	}
}

func TestSlideLeavesTheMap(t *testing.T) {
	d := dice(14)
	for range 20 {
		m, l := d.marked(t, 200)
		s := slid(t, m, 30, 170, 5)
		for at := range 200 {
			s.To(at)
			s.Back(at)
		}
		l.holds(t, "slid", m)
	}
}

func TestWhatSlidesHasNoGap(t *testing.T) {
	d := dice(15)
	for range 60 {
		words := 1 + d.below(400)
		m, l := d.marked(t, words)
		from := d.below(words)
		behind := from + d.below(words-from+1)
		base := d.below(from + 1)
		s := slid(t, m, from, behind, base)
		next := base
		for at := from; at < behind; at++ {
			if !l[at] {
				continue
			}
			to, ok := s.To(at)
			if to != next || !ok {
				t.Fatalf("P4.7: %v: Slide(%d, %d, %d): To(%d): %d, %v, want %d", l.runs(), from, behind, base, at, to, ok, next)
			}
			if to > at {
				t.Fatalf("P4.7: %v: Slide(%d, %d, %d): word %d goes up to %d", l.runs(), from, behind, base, at, to)
			}
			if before, ok := s.To(at - 1); ok && before != to-1 {
				t.Fatalf("P4.7: %v: the neighbours %d and %d are parted", l.runs(), at-1, at)
			}
			next++
		}
		want(t, "P4.7: the last one", next, base+s.Total())
		want(t, "P4.8: Total is the piece's Count", s.Total(), m.Count(from, behind))
	}
}
