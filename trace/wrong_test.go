package trace_test

import (
	"testing"

	"midden/api"
	"midden/arena"
	"midden/marks"
	"midden/trace"
)

func yes(int, api.Head) bool { return true }

// refused holds all three calls to an error; Mark with a map that fits.
func refused(t *testing.T, a *arena.Arena, from []int, workers int, e api.Errno) {
	t.Helper()
	m := fresh(t, a, 1)
	refusedMark(t, a, m, from, workers, e)
	want(t, "P8.3: marked", marked(m), []int{1})
	if got := counted(a, from, workers, 1000); got != [3]int{0, 0, int(e)} {
		t.Errorf("P8.3: Count from %v by %d: %v, want error %d", from, workers, got, e)
	}
	if got := counted(a, from, workers, -1); got != [3]int{0, 0, int(e)} {
		t.Errorf("P8.3: Count from %v by %d beyond the budget: %v, want error %d", from, workers, got, e)
	}
	if got := sought(a, from, workers, yes); got != [3]int{0, 0, int(e)} {
		t.Errorf("P8.3: Seek from %v by %d: %v, want error %d", from, workers, got, e)
	}
}

func refusedMark(t *testing.T, a *arena.Arena, m *marks.Map, from []int, workers int, e api.Errno) {
	t.Helper()
	if n, got := trace.Mark(a, m, from, workers); n != 0 || got != e {
		t.Errorf("P8.3: Mark from %v by %d: %d, error %d, want error %d", from, workers, n, got, e)
	}
}

func TestWorkersThatMayNotBe(t *testing.T) {
	a := memory(t)
	for _, workers := range append(odd, 0, 9, 10, 257) {
		refused(t, a, []int{1}, workers, api.ErrTraceWorkers)
		refused(t, a, nil, workers, api.ErrTraceWorkers)
		refused(t, a, []int{2}, workers, api.ErrTraceWorkers)
		refusedMark(t, a, mapOf(t, 9), []int{2}, workers, api.ErrTraceWorkers)
	}
}

func TestMapsOfOtherSizes(t *testing.T) {
	a := memory(t)
	for _, n := range []int{0, 1, 64, words(a) - 1, words(a) + 1, 1 << 20} {
		m := mapOf(t, n)
		m.Set(0, min(n, 1))
		was := marked(m)
		refusedMark(t, a, m, []int{1}, 1, api.ErrMarksSize)
		refusedMark(t, a, m, nil, 8, api.ErrMarksSize)
		refusedMark(t, a, m, []int{2}, 1, api.ErrMarksSize)
		want(t, "P8.3: marked", marked(m), was)
	}
}

func TestAddressesOfNoObject(t *testing.T) {
	a := memory(t)
	a.Fill(api.SpaceEden, 3)
	for _, at := range append(odd, 2, 19, 20, 21, 23, 64, 65, 129, 193, words(a)-1, words(a)) {
		refused(t, a, []int{at}, 1, api.ErrTraceFrom)
		refused(t, a, []int{1, 0, at, 5}, 8, api.ErrTraceFrom)
		refused(t, a, []int{1, 5, 9, 13, 18, 1, at}, 3, api.ErrTraceFrom)
	}
}

func TestAboveTheTopNoObjectStands(t *testing.T) {
	a := memory(t)
	a.Cut(api.SpaceEden, 18)
	refused(t, a, []int{18}, 2, api.ErrTraceFrom)
	mark(t, "P8.3: below it one does", a, fresh(t, a), []int{9}, 2, 1)
}

// An object stands where the words say so: in a raw field, too.
func TestObjectsThatStandByTheirWords(t *testing.T) {
	a := made(t, small())
	at := put(t, a, api.SpaceTenured, api.Head{Kind: api.Plain, Raws: 4})
	a.SetRaw(at, 1, a.Word(put(t, a, api.SpaceEden, api.Head{Kind: api.Plain})))
	if _, e := trace.Mark(a, fresh(t, a), []int{at + 3}, 1); e != api.OK {
		t.Errorf("P8.3: Mark from a raw field that reads as an object: error %d", e)
	}
}
