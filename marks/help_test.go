package marks_test

import (
	"fmt"
	"iter"
	"testing"

	"midden/api"
	"midden/marks"
)

const (
	least = -1 << 63
	most  = 1<<63 - 1
	limit = 1048576 // words of a map, and a slide's base
)

// odd are numbers that are no word of any map.
var odd = []int{least, least + 1, -1 << 32, -limit, -65, -64, -63, -2, -1, limit, limit + 1, 1 << 32, 1<<32 + 3, 1 << 62, most - 63, most - 1, most}

// sizes are numbers of words about the edges at which bits change their word.
var sizes = []int{0, 1, 2, 3, 62, 63, 64, 65, 127, 128, 129, 191, 192, 193, 320}

func want(t *testing.T, what string, got, want any) {
	t.Helper()
	if g, w := fmt.Sprint(got), fmt.Sprint(want); g != w {
		t.Errorf("%s: %s, want %s", what, g, w)
	}
}

func made(t *testing.T, words int) *marks.Map {
	t.Helper()
	m, e := marks.New(words)
	if m == nil || e != api.OK {
		t.Fatalf("P4.1: New(%d): error %d", words, e)
	}
	return m
}

func set(t *testing.T, m *marks.Map, from, n int) {
	t.Helper()
	if _, e := m.Set(from, n); e != api.OK {
		t.Fatalf("P4.2: Set(%d, %d): error %d", from, n, e)
	}
}

// laid tells a map with such runs.
func laid(t *testing.T, words int, l ...run) *marks.Map {
	t.Helper()
	m := made(t, words)
	for _, r := range l {
		set(t, m, r.first, r.n)
	}
	return m
}

func slid(t *testing.T, m *marks.Map, from, behind, base int) *marks.Slide {
	t.Helper()
	s, e := m.Slide(from, behind, base)
	if s == nil || e != api.OK {
		t.Fatalf("P4.5: Slide(%d, %d, %d): error %d", from, behind, base, e)
	}
	return s
}

// run: a first word, and how many there are.
type run struct{ first, n int }

func runs(seq iter.Seq2[int, int]) []run {
	var l []run
	for first, n := range seq {
		l = append(l, run{first, n})
	}
	return l
}

// model: the same as a map, a bool a word.
type model []bool

// modelled tells the model of a map by Has alone.
func modelled(m *marks.Map) model {
	l := make(model, m.Words())
	for at := range l {
		l[at] = m.Has(at)
	}
	return l
}

func (l model) set(from, n int) bool {
	fresh := true
	for at := from; at < from+n; at++ {
		fresh = fresh && !l[at]
		l[at] = true
	}
	return fresh
}

func (l model) count(from, behind int) int {
	n := 0
	for at, marked := range l {
		if marked && at >= from && at < behind {
			n++
		}
	}
	return n
}

func (l model) next(at int) int {
	for i, marked := range l {
		if marked && i >= at {
			return i
		}
	}
	return -1
}

func (l model) runs() []run {
	var r []run
	for at, marked := range l {
		switch {
		case !marked:
		case at > 0 && l[at-1]:
			r[len(r)-1].n++
		default:
			r = append(r, run{at, 1})
		}
	}
	return r
}

// holds holds the map against the model in all that can be asked of it.
func (l model) holds(t *testing.T, when string, m *marks.Map) {
	t.Helper()
	want(t, "P4.3: "+when+": Words", m.Words(), len(l))
	for at := -2; at < len(l)+66; at++ {
		if got := m.Has(at); got != (at >= 0 && at < len(l) && l[at]) {
			t.Errorf("P4.3: %s: Has(%d): %v", when, at, got)
		}
		if got := m.Next(at); got != l.next(at) {
			t.Errorf("P4.3: %s: Next(%d): %d, want %d", when, at, got, l.next(at))
		}
	}
	want(t, "P4.4: "+when+": Runs", runs(m.Runs()), l.runs())
	want(t, "P4.3: "+when+": Count", m.Count(0, len(l)), l.count(0, len(l)))
}

// dice: numbers that look like chance and are the same at every run.
type dice uint64

func (d *dice) word() uint64 {
	*d += 0x9e3779b97f4a7c15
	z := uint64(*d)
	z = (z ^ z>>30) * 0xbf58476d1ce4e5b9
	z = (z ^ z>>27) * 0x94d049bb133111eb
	return z ^ z>>31
}

func (d *dice) below(n int) int { return int(d.word() % uint64(n)) }

// marked tells a map with some runs, short and long ones, and its model.
func (d *dice) marked(t *testing.T, words int) (*marks.Map, model) {
	t.Helper()
	m, l := made(t, words), make(model, words)
	for range d.below(12) {
		from := d.below(words + 1)
		n := d.below(min(words-from, 1+d.below(100)) + 1)
		set(t, m, from, n)
		l.set(from, n)
	}
	return m, l
}
