package weak_test

import (
	"slices"
	"testing"

	"midden/api"
	"midden/weak"
)

// each goes through all numbers of workers.
func each(do func(workers int)) {
	for workers := 1; workers <= api.MaxWorkers; workers++ {
		do(workers)
	}
}

func TestReachThroughStrongFields(t *testing.T) {
	each(func(workers int) {
		x := made(t, small())
		l := x.plain(t, 6)
		p := x.lay(t, api.SpaceEden, api.Plain, l[0], 0)
		f := x.lay(t, api.SpaceEden, api.Final, l[1], p)
		w := x.lay(t, api.SpaceEden, api.Weak, l[2], l[3], f)
		e := x.lay(t, api.SpaceEden, api.Ephemeron, l[4], l[4], l[5], w)
		x.reach(t, workers, 0, e, 0, e)
		x.marked(t, "P10.3: l[2] is held weakly, l[4] as key and value", e, w, f, p, l[0], l[1], l[3], l[5])
	})
}

// An ephemeron leads to its value, if it is marked, and its key is.
func TestReachThroughEphemerons(t *testing.T) {
	for _, c := range []struct {
		what       string
		key, value int // of a, b; 0: null
		from       []int
		more       []int // a is 1, b 2, the ephemeron 3
	}{
		{"the key is reached", 1, 2, []int{3, 1}, []int{2}},
		{"the key isn't", 1, 2, []int{3}, nil},
		{"the ephemeron isn't", 1, 2, []int{1}, nil},
		{"the value alone is", 1, 2, []int{2}, nil},
		{"the value is, the key isn't", 1, 2, []int{3, 2}, nil},
		{"no key", 0, 2, []int{3, 1}, nil},
		{"no value", 1, 0, []int{3, 1}, nil},
		{"neither", 0, 0, []int{3, 1}, nil},
		{"the value is the key, which isn't reached", 1, 1, []int{3}, nil},
		{"the value is the key", 1, 1, []int{3, 1}, nil},
		{"the key is the ephemeron", 3, 2, []int{3}, []int{2}},
		{"the value is the ephemeron", 1, 3, []int{1}, nil},
		{"both are the ephemeron", 3, 3, []int{3}, nil},
	} {
		each(func(workers int) {
			x := made(t, small())
			ats := append([]int{0}, x.plain(t, 2)...)
			ats = append(ats, x.lay(t, api.SpaceTenured, api.Ephemeron, 0, 0))
			x.point(t, ats[3], 0, ats[c.key])
			x.point(t, ats[3], 1, ats[c.value])
			var from, all []int
			for _, n := range c.from {
				from = append(from, ats[n])
			}
			for _, n := range slices.Concat(c.from, c.more) {
				all = append(all, ats[n])
			}
			was := x.told()
			x.reach(t, workers, from...)
			x.marked(t, "P10.3: "+c.what, all...)
			x.m.Clear()
			want(t, "P10.3: Reach marks, and changes nothing else", x.told(), was)
		})
	}
}

// What a value leads to is marked with it: further ephemerons, their keys, and what ties these.
func TestReachToTheFixedPoint(t *testing.T) {
	each(func(workers int) {
		x := made(t, small())
		l := x.plain(t, 6)
		e3 := x.lay(t, api.SpaceEden, api.Ephemeron, l[2], l[3])
		e2 := x.lay(t, api.SpaceEden, api.Ephemeron, l[1], 0)
		held := x.lay(t, api.SpaceEden, api.Plain, e3, l[2])
		x.point(t, e2, 1, held)
		e1 := x.lay(t, api.SpaceEden, api.Ephemeron, l[0], l[1], l[0])
		dead := x.lay(t, api.SpaceEden, api.Ephemeron, l[5], l[4])
		x.reach(t, workers, e1, e2, dead)
		x.marked(t, "P10.3", e1, e2, dead, l[0], l[1], held, e3, l[2], l[3])
	})
}

// Two ephemerons, each of which holds the other one's key, hold neither.
func TestReachOfTiesInACircle(t *testing.T) {
	x := made(t, small())
	l := x.plain(t, 2)
	one := x.lay(t, api.SpaceEden, api.Ephemeron, l[0], l[1])
	two := x.lay(t, api.SpaceEden, api.Ephemeron, l[1], l[0])
	x.reach(t, 2, one, two)
	x.marked(t, "P10.3: no key is reached", one, two)
	x.reach(t, 2, l[1])
	x.marked(t, "P10.3: one is", one, two, l[0], l[1])
}

// Many ephemerons of one key, and many that hold one value.
func TestReachOfSharedKeysAndValues(t *testing.T) {
	x := made(t, sized(200, 64, 100))
	l := x.plain(t, 12)
	var ties []int
	for _, to := range l[1:] {
		ties = append(ties, x.lay(t, api.SpaceEden, api.Ephemeron, l[0], to), x.lay(t, api.SpaceEden, api.Ephemeron, to, l[11]))
	}
	x.reach(t, 4, ties...)
	x.marked(t, "P10.3: no key", ties...)
	x.reach(t, 4, l[0])
	x.marked(t, "P10.3: one key", slices.Concat(ties, l)...)
}

// In each space, behind fillers, with keys and values in other spaces.
func TestReachInAllSpaces(t *testing.T) {
	for i, space := range all {
		for _, swapped := range []bool{false, true} {
			x := made(t, small())
			for _, s := range all {
				x.a.Fill(s, 2)
			}
			k := x.lay(t, all[(i+1)%4], api.Plain)
			v := x.lay(t, all[(i+2)%4], api.Plain)
			e := x.lay(t, space, api.Ephemeron, k, v)
			if swapped {
				x.a.Swap()
			}
			x.reach(t, 1, k, e)
			x.marked(t, "P10.3", k, v, e)
		}
	}
}

func TestReachAtTheArraysEnds(t *testing.T) {
	x := made(t, small())
	v := x.lay(t, api.SpaceEden, api.Plain)
	x.a.Fill(api.SpaceTenured, x.a.Free(api.SpaceTenured)-6)
	e := x.lay(t, api.SpaceTenured, api.Ephemeron, 0, v)
	k := x.lay(t, api.SpaceTenured, api.Plain)
	x.point(t, e, 0, k)
	x.reach(t, 1, e, k)
	x.marked(t, "P10.3", v, e, k)
}

// Ephemerons that were marked ahead of the call count; what was marked stays, and isn't gone through.
func TestReachBehindMarks(t *testing.T) {
	x := made(t, small())
	l := x.plain(t, 5)
	e := x.lay(t, api.SpaceEden, api.Ephemeron, l[0], l[1], l[2])
	p := x.lay(t, api.SpaceEden, api.Plain, l[3])
	for _, from := range [][]int{nil, {}, {0}, {0, 0}, {e}, {p, l[0]}} {
		x.m.Clear()
		x.mark(e, l[0], p)
		x.reach(t, 2, from...)
		x.marked(t, "P10.3: what marked ones lead to strongly isn't looked for", e, l[0], l[1], p)
	}
	x.m.Clear()
	x.mark(e, l[1])
	x.reach(t, 2, l[0])
	x.marked(t, "P10.3: the value is marked already", e, l[0], l[1])
	x.m.Clear()
	x.mark(l[0])
	x.reach(t, 2, e)
	x.marked(t, "P10.3: the key is marked already", e, l[0], l[1], l[2])
	x.m.Clear()
	x.m.Set(e, 1)
	x.m.Set(l[0], 1)
	x.m.Set(l[1]+1, 1)
	x.reach(t, 1)
	want(t, "P10.3: the first word tells whether an object is marked", wordsMarked(x.m), []int{e, l[0], l[1], l[1] + 1})
	x.m.Clear()
	x.m.Set(e+1, 3)
	x.m.Set(l[0], 2)
	x.reach(t, 1, l[4])
	want(t, "P10.3: the others don't", wordsMarked(x.m), []int{e + 1, e + 2, e + 3, l[0], l[0] + 1, l[4], l[4] + 1})
}

// A null key is no marked one, though the word 0 be marked.
func TestReachWithWordZeroMarked(t *testing.T) {
	x := made(t, small())
	v := x.plain(t, 1)[0]
	e := x.lay(t, api.SpaceEden, api.Ephemeron, 0, v)
	x.m.Set(0, 1)
	x.reach(t, 1, e)
	if x.m.Has(v) {
		t.Error("P10.3: an ephemeron without a key leads to its value")
	}
	x.settle(t, 1, nil, 1)
	x.fields(t, "P10.4: a null key", e, 0, 0)
}

// Long chains, each tie's value being the next one's key: in the order of the walk, and the other way round.
func TestReachOfLongChains(t *testing.T) {
	const n = 400
	for _, back := range []bool{false, true} {
		x := made(t, sized(4*n, 64, 2*n+2))
		keys := x.plain(t, n+1)
		var ties []int
		for range n {
			ties = append(ties, x.lay(t, api.SpaceEden, api.Ephemeron, 0, 0))
		}
		from := append(slices.Clone(ties), keys[0])
		if back {
			slices.Reverse(ties)
		}
		for i, tie := range ties {
			x.point(t, tie, 0, keys[i])
			x.point(t, tie, 1, keys[i+1])
		}
		for _, workers := range []int{1, 8} {
			x.m.Clear()
			x.reach(t, workers, from...)
			x.marked(t, "P10.3: the whole chain", slices.Concat(ties, keys)...)
		}
	}
}

func TestReachTakesNoListAway(t *testing.T) {
	x := made(t, small())
	l := x.plain(t, 3)
	e := x.lay(t, api.SpaceEden, api.Ephemeron, l[0], l[1])
	whole := []int{e, 0, l[0], e, 77, 78}
	was := slices.Clone(whole)
	x.reach(t, 3, whole[:4]...)
	want(t, "rule 3: what was handed in", whole, was)
	x.marked(t, "P10.3", e, l[0], l[1])
}

// refused holds Reach to an error, with nothing marked.
func (x *memory) refused(t *testing.T, from []int, workers int, e api.Errno) {
	t.Helper()
	was := x.told()
	if got := weak.Reach(x.a, x.m, from, workers); got != e {
		t.Errorf("P10.3: Reach from %v by %d: error %d, want %d", from, workers, got, e)
	}
	want(t, "P10.3: what is refused changes nothing", x.told(), was)
}

func TestReachRefused(t *testing.T) {
	x := made(t, small())
	l := x.plain(t, 3)
	e := x.lay(t, api.SpaceEden, api.Ephemeron, l[0], l[1])
	x.mark(e, l[0]) // the value is due: no refused call marks it
	x.a.Fill(api.SpaceEden, 3)
	for _, workers := range append(slices.Clone(odd), 0, 9, 10, 257) {
		for _, from := range [][]int{nil, {l[2]}, {l[2], -1}} {
			x.refused(t, from, workers, api.ErrTraceWorkers)
		}
	}
	for _, at := range append(slices.Clone(odd), 2, e+1, e+4, 64, 65, 129, l[2]+1, l[2]+2, wordsIn(x.a)) {
		each(func(workers int) {
			x.refused(t, []int{at}, workers, api.ErrTraceFrom)
			x.refused(t, []int{l[2], 0, at, l[1]}, workers, api.ErrTraceFrom)
		})
	}
	x.reach(t, 1)
	x.marked(t, "P10.3", e, l[0], l[1])
}
