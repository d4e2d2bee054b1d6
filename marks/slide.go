package marks

import (
	"sort"

	"midden/api"
)

// Slide: where the marked words of a piece go, when they slide to a base.
type Slide struct {
	base, total int
	kept        *Map  // the marked words that go, and no others
	below       []int // how many words go that lie below each word of bits
}

// Slide makes one for the words from one up to ahead of another.
func (m *Map) Slide(from, behind, base int) (*Slide, api.Errno) {
	if from < 0 || behind > m.words || from > behind || base < 0 || base > most {
		return nil, api.ErrMarksRange
	}
	s := &Slide{base: base, kept: blank(behind)}
	for at, n := range m.runs(from, behind) {
		s.kept.Set(at, n)
	}
	s.tally()
	return s, api.OK
}

// tally counts what is kept.
func (s *Slide) tally() {
	s.below = make([]int, len(s.kept.bits))
	for i, w := range s.kept.bits {
		s.below[i] = s.total
		s.total += ones(w)
	}
}

// To tells where a marked word goes, Back which one goes there.
func (s *Slide) To(at int) (int, bool) {
	if !s.kept.Has(at) {
		return 0, false
	}
	i := at / wide
	return s.base + s.below[i] + ones(s.kept.bits[i]&mask(0, at%wide)), true
}

func (s *Slide) Back(to int) (int, bool) {
	if to < s.base || to >= s.base+s.total {
		return 0, false
	}
	nth := to - s.base
	// Words of bits without marks have the count of the next one: the last that isn't above nth has the bit.
	i := sort.Search(len(s.below), func(i int) bool { return s.below[i] > nth }) - 1
	return i*wide + place(s.kept.bits[i], nth-s.below[i]), true
}

// Total tells how many go.
func (s *Slide) Total() int { return s.total }
