package trace_test

import (
	"slices"
	"testing"

	"midden/api"
)

// Each kind with four pointer fields, to objects of its own; field by field.
func TestStrongFields(t *testing.T) {
	for _, c := range []struct{ kind, first int }{{api.Plain, 0}, {api.Final, 0}, {api.Weak, 1}, {api.Ephemeron, 2}} {
		for fields := range 5 {
			if fields < c.first {
				continue
			}
			a := made(t, small())
			var held []int
			for range fields {
				held = append(held, lay(t, a, api.SpaceTenured, api.Plain))
			}
			at := lay(t, a, api.SpaceEden, c.kind, held...)
			all := append([]int{at}, held[c.first:]...)
			m := fresh(t, a)
			mark(t, "P8.1", a, m, []int{at}, 3, len(all))
			want(t, "P8.1: marked", marked(m), wordsOf(a, all...))
			want(t, "P8.1: counted", counted(a, []int{at}, 3, most), [3]int{len(all), len(marked(m)), 0})
		}
	}
}

// What one object holds weakly another may hold strongly.
func TestHeldWeaklyAndStrongly(t *testing.T) {
	a := made(t, small())
	to := lay(t, a, api.SpaceEden, api.Plain)
	weak := lay(t, a, api.SpaceEden, api.Weak, to)
	eph := lay(t, a, api.SpaceEden, api.Ephemeron, weak, to)
	final := lay(t, a, api.SpaceEden, api.Final, eph, to)
	twice := lay(t, a, api.SpaceEden, api.Weak, to, to)
	for _, c := range []struct{ from, all []int }{
		{[]int{weak}, []int{weak}},
		{[]int{eph}, []int{eph}},
		{[]int{weak, eph}, []int{weak, eph}},
		{[]int{final}, []int{to, eph, final}},
		{[]int{twice}, []int{to, twice}},
		{[]int{weak, to}, []int{to, weak}},
	} {
		m := fresh(t, a)
		mark(t, "P8.1", a, m, c.from, 2, len(c.all))
		want(t, "P8.1: marked", marked(m), wordsOf(a, c.all...))
	}
}

func TestMarkInAllSpaces(t *testing.T) {
	a := made(t, small())
	last, ats := 0, []int{}
	for _, space := range all {
		a.Fill(space, 2)
		last = lay(t, a, space, api.Plain, last)
		ats = append(ats, last)
	}
	m := fresh(t, a)
	mark(t, "P8.4: eden, A, B, tenured", a, m, []int{last}, 4, 4)
	want(t, "P8.4: marked", marked(m), wordsOf(a, ats...))
}

func TestMarkAtTheArraysEnds(t *testing.T) {
	a := made(t, small())
	first := lay(t, a, api.SpaceEden, api.Plain, 0)
	a.Fill(api.SpaceTenured, a.Free(api.SpaceTenured)-3)
	last := lay(t, a, api.SpaceTenured, api.Plain, first)
	m := fresh(t, a)
	mark(t, "P8.4", a, m, []int{last}, 1, 2)
	want(t, "P8.4: marked", marked(m), []int{1, 2, 3, words(a) - 3, words(a) - 2, words(a) - 1})
}

func TestMarkFromNothing(t *testing.T) {
	a := memory(t)
	for _, from := range [][]int{nil, {}, {0}, {0, 0, 0}} {
		m := fresh(t, a, 9, 20)
		mark(t, "P8.4", a, m, from, 8, 0)
		want(t, "P8.4: marked", marked(m), []int{9, 20})
	}
	mark(t, "P8.4: an arena without objects", made(t, small()), fresh(t, a), []int{0}, 8, 0)
}

func TestMarkFromTwice(t *testing.T) {
	a := memory(t)
	m := fresh(t, a)
	mark(t, "P8.4", a, m, []int{18, 0, 5, 18, 13, 5, 18}, 3, 3)
	want(t, "P8.4: marked", marked(m), wordsOf(a, 5, 13, 18))
}

// The word at its address tells whether an object is marked (P8.2), none of its other words does.
func TestMarkedByTheFirstWord(t *testing.T) {
	a := memory(t)
	m := fresh(t, a, 5)
	mark(t, "P8.2: the first word alone", a, m, []int{1, 5}, 2, 1)
	want(t, "P8.2: marked", marked(m), []int{1, 2, 3, 4, 5})
	m = fresh(t, a, 2, 3, 4, 6, 7, 8, 14, 17, 19, 20)
	mark(t, "P8.2: all but the first word", a, m, []int{1}, 2, 4)
	want(t, "P8.2: marked", marked(m), append(wordsOf(a, 1, 5, 13, 18), 20))
}

// What lies behind a marked object is met on another way alone.
func TestMarkedOnesArentGoneThrough(t *testing.T) {
	a := made(t, small())
	end := lay(t, a, api.SpaceEden, api.Plain)
	middle := lay(t, a, api.SpaceEden, api.Plain, end)
	one := lay(t, a, api.SpaceEden, api.Plain, middle)
	both := lay(t, a, api.SpaceEden, api.Plain, middle, one, end)
	m := fresh(t, a, wordsOf(a, middle)...)
	mark(t, "P8.4: the end lies behind a marked one", a, m, []int{one, middle}, 2, 1)
	want(t, "P8.4: marked", marked(m), wordsOf(a, middle, one))
	mark(t, "P8.4: the end is held besides", a, m, []int{both}, 2, 2)
	want(t, "P8.4: marked", marked(m), wordsOf(a, end, middle, one, both))
}

func TestCirclesEnd(t *testing.T) {
	a := made(t, small())
	one := lay(t, a, api.SpaceEden, api.Plain, 0, 0)
	two := lay(t, a, api.SpaceTenured, api.Final, one, 0)
	point(t, a, one, 0, one)
	point(t, a, one, 1, two)
	point(t, a, two, 1, two)
	for workers := 1; workers <= api.MaxWorkers; workers++ {
		mark(t, "P8.4: a circle", a, fresh(t, a), []int{one}, workers, 2)
		want(t, "P8.5: a circle", counted(a, []int{two}, workers, 2), [3]int{2, 8, 0})
		want(t, "P8.6: a circle", sought(a, []int{two}, workers, yes), [3]int{one, 1, 0})
	}
}

// The greatest object there may be leads to itself and to all others.
func TestManyFields(t *testing.T) {
	a := made(t, sized(64, 64, api.MaxSpace))
	at := put(t, a, api.SpaceTenured, api.Head{Kind: api.Final, Ptrs: api.MaxPtrs, Raws: 3})
	ats := []int{at}
	for i := range api.MaxPtrs - 1 {
		ats = append(ats, lay(t, a, api.SpaceTenured, api.Plain, at))
		point(t, a, at, i, ats[i])
	}
	point(t, a, at, api.MaxPtrs-1, ats[len(ats)-1])
	for workers := 1; workers <= api.MaxWorkers; workers++ {
		m := fresh(t, a)
		mark(t, "P8.4", a, m, []int{ats[1]}, workers, len(ats))
		if !slices.Equal(marked(m), wordsOf(a, ats...)) {
			t.Errorf("P8.4: %d workers: other words are marked", workers)
		}
	}
}
