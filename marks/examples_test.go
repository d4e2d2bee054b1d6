package marks_test

import (
	"fmt"
	"testing"

	"midden/api"
	"midden/marks"
)

// example is the map of the chapter's examples 1 and 2.
func example(t *testing.T) *marks.Map {
	t.Helper()
	m := made(t, 200)
	for _, c := range []struct {
		from, n int
		fresh   bool
		e       api.Errno
	}{{3, 4, true, 0}, {6, 2, false, 0}, {64, 1, true, 0}, {65, 70, true, 0}, {199, 2, false, api.ErrMarksRange}, {200, 0, true, 0}} {
		if ok, e := m.Set(c.from, c.n); ok != c.fresh || e != c.e {
			t.Errorf("P4.2: Set(%d, %d): %v, %d", c.from, c.n, ok, e)
		}
	}
	return m
}

func TestExample1(t *testing.T) {
	m := example(t)
	want(t, "P4.3: Has(7), Has(8), Has(-1)", []bool{m.Has(7), m.Has(8), m.Has(-1)}, "[true false false]")
	want(t, "P4.3: Count(0, 200), Count(5, 65)", []int{m.Count(0, 200), m.Count(5, 65)}, "[76 4]")
	want(t, "P4.3: Next(8), Next(135)", []int{m.Next(8), m.Next(135)}, "[64 -1]")
	want(t, "P4.4: Runs", runs(m.Runs()), "[{3 5} {64 71}]")
}

func TestExample2(t *testing.T) {
	s := slid(t, example(t), 1, 200, 1)
	want(t, "P4.6: Total", s.Total(), 76)
	for _, c := range []struct{ at, to int }{{3, 1}, {7, 5}, {64, 6}, {134, 76}} {
		to, ok := s.To(c.at)
		want(t, fmt.Sprintf("P4.6: To(%d)", c.at), fmt.Sprint(to, ok), fmt.Sprint(c.to, true))
	}
	want(t, "P4.6: To(8)", nothing(s.To(8)), true)
	back, ok := s.Back(6)
	want(t, "P4.6: Back(6)", fmt.Sprint(back, ok), "64 true")
	want(t, "P4.6: Back(77), Back(0)", nothing(s.Back(77)) && nothing(s.Back(0)), true)
}

func TestExample3(t *testing.T) {
	for _, words := range []int{-1, 1048577} {
		m, e := marks.New(words)
		want(t, "P4.1: New", fmt.Sprint(m == nil, int(e)), fmt.Sprint(true, int(api.ErrMarksSize)))
	}
	m := made(t, 0)
	want(t, "P4.1: Words, Next(0)", []int{m.Words(), m.Next(0)}, "[0 -1]")
}
