package trace_test

import (
	"testing"

	"midden/api"
	"midden/trace"
)

func TestExample1(t *testing.T) {
	a := memory(t)
	for workers := 1; workers <= api.MaxWorkers; workers++ {
		m := fresh(t, a)
		mark(t, "P8.4", a, m, []int{1}, workers, 4)
		want(t, "P8.4: marked", marked(m), wordsOf(a, 1, 5, 13, 18))
		mark(t, "P8.4, again", a, m, []int{1}, workers, 0)
		want(t, "P8.4: marked still", marked(m), wordsOf(a, 1, 5, 13, 18))
		mark(t, "P8.4", a, m, []int{9}, workers, 1)
		want(t, "P8.4: marked then", marked(m), wordsOf(a, 1, 5, 9, 13, 18))
		want(t, "P8.5: budget 4", counted(a, []int{1}, workers, 4), [3]int{4, 15, 0})
		want(t, "P8.5: budget 3", counted(a, []int{1}, workers, 3), [3]int{0, 0, int(api.ErrTraceBudget)})
	}
}

func TestExample2(t *testing.T) {
	a := memory(t)
	m := fresh(t, a)
	m.Set(5, 4)
	mark(t, "P8.4", a, m, []int{1}, 2, 1)
	want(t, "P8.4: marked", marked(m), wordsOf(a, 1, 5))
	want(t, "P8.5: from 0", counted(a, []int{0}, 1, 0), [3]int{})
	want(t, "P8.5: from nothing", counted(a, nil, 1, 0), [3]int{})
	n, e := trace.Mark(a, m, []int{2}, 1)
	want(t, "P8.3: Mark from 2", []int{n, int(e)}, []int{0, int(api.ErrTraceFrom)})
	for _, workers := range []int{0, 9} {
		n, e := trace.Mark(a, m, []int{1}, workers)
		want(t, "P8.3: workers 0 or 9", []int{n, int(e)}, []int{0, int(api.ErrTraceWorkers)})
	}
}

func TestExample3(t *testing.T) {
	a := memory(t)
	for workers := 1; workers <= api.MaxWorkers; workers++ {
		want(t, "P8.6: a Weak or an Ephemeron", sought(a, []int{1}, workers, func(_ int, h api.Head) bool { return h.Kind == api.Weak || h.Kind == api.Ephemeron }), [3]int{5, 1, 0})
		want(t, "P8.6: no pointer field", sought(a, []int{1}, workers, func(_ int, h api.Head) bool { return h.Ptrs == 0 }), [3]int{18, 1, 0})
		want(t, "P8.6: a Final", sought(a, []int{1}, workers, func(_ int, h api.Head) bool { return h.Kind == api.Final }), [3]int{})
	}
}
