package weak_test

import (
	"fmt"
	"slices"
	"testing"

	"midden/api"
	"midden/weak"
)

func TestSettleOfNothing(t *testing.T) {
	each(func(workers int) {
		x := made(t, small())
		x.settle(t, workers, nil, 0)
		l := x.plain(t, 3)
		x.lay(t, api.SpaceEden, api.Weak, l[0])
		x.lay(t, api.SpaceEden, api.Ephemeron, l[0], l[1])
		x.lay(t, api.SpaceEden, api.Final, l[1])
		was := x.told()
		x.settle(t, workers, nil, 0)
		want(t, "P10.4: nothing is marked, the registry is empty", x.told(), was)
	})
}

// Who is queued: those that aren't marked when their turn comes, in the registry's order.
func TestSettleQueues(t *testing.T) {
	each(func(workers int) {
		x, l := finals(t, 6)
		x.add(t, l[4], l[0], l[5], l[1], l[3])
		x.mark(l[0], l[3], l[2])
		x.settle(t, workers, []int{l[4], l[5], l[1]}, 0)
		x.list(t, "P10.4", l[0], l[3])
		x.marked(t, "P10.4", l...)
		for i, kind := range []int{api.Final, api.Plain, api.Final, api.Final, api.Plain, api.Plain} {
			want(t, "P10.4: the kind", x.kind(l[i]), kind)
		}
		x.settle(t, workers, nil, 0)
		x.list(t, "P10.4: again", l[0], l[3])
	})
}

// Of the queued ones' words the kind alone changes.
func TestSettleLeavesTheRest(t *testing.T) {
	x := made(t, small())
	h := api.Head{Serial: 1<<62 + 5, Kind: api.Final, Ptrs: 2, Raws: 2, Age: 15, Site: 255, Held: true}
	at := x.put(t, api.SpaceTenured, h)
	to := x.plain(t, 1)[0]
	x.point(t, at, 1, to)
	x.a.SetRaw(at, 0, 1<<63)
	x.a.SetRaw(at, 1, 7)
	x.add(t, at)
	var words []uint64
	for i := range wordsIn(x.a) {
		words = append(words, x.a.Word(i))
	}
	x.settle(t, 1, []int{at}, 0)
	h.Kind = api.Plain
	got, _ := x.a.Head(at)
	want(t, "P10.4: the header", got, h)
	for i, w := range words {
		if i != at && x.a.Word(i) != w {
			t.Errorf("P10.4: the word %d was %d, and is %d", i, w, x.a.Word(i))
		}
	}
	x.marked(t, "P10.4", at, to)
}

// What a queued object reaches is marked ahead of the next one's turn: through fields, and by ephemerons.
func TestSettleReaches(t *testing.T) {
	each(func(workers int) {
		x := made(t, small())
		k := x.plain(t, 2)
		c := x.lay(t, api.SpaceEden, api.Final)
		d := x.lay(t, api.SpaceEden, api.Final)
		held := x.lay(t, api.SpaceEden, api.Plain, c)
		a := x.lay(t, api.SpaceEden, api.Final, k[0])
		e2 := x.lay(t, api.SpaceEden, api.Ephemeron, k[1], held)
		e1 := x.lay(t, api.SpaceEden, api.Ephemeron, k[0], k[1])
		x.add(t, d, a, c)
		x.reach(t, workers, e1, e2)
		x.marked(t, "P10.3", e1, e2)
		x.settle(t, workers, []int{d, a}, 0)
		x.list(t, "P10.4", c)
		x.marked(t, "P10.4", e1, e2, a, c, d, k[0], k[1], held)
		x.fields(t, "P10.4: the keys are marked by then", e1, k[0], k[1])
		x.fields(t, "P10.4: the keys are marked by then", e2, k[1], held)
	})
}

// One queued object reaches an ephemeron, another one its key: behind both of them, in either order, the value is marked.
func TestSettleReachesByLaterKeys(t *testing.T) {
	const one, two, v = 0, 1, 2
	for _, c := range []struct{ order, queued []int }{
		{[]int{one, two, v}, []int{one, two}},
		{[]int{two, one, v}, []int{two, one}},
		{[]int{one, v, two}, []int{one, v, two}},
		{[]int{two, v, one}, []int{two, v, one}},
		{[]int{v, two, one}, []int{v, two, one}},
	} {
		each(func(workers int) {
			x := made(t, small())
			value := x.lay(t, api.SpaceEden, api.Final)
			k := x.plain(t, 1)[0]
			e := x.lay(t, api.SpaceEden, api.Ephemeron, k, value)
			ats := []int{x.lay(t, api.SpaceEden, api.Final, e), x.lay(t, api.SpaceEden, api.Final, k), value}
			x.add(t, named(ats, c.order)...)
			x.settle(t, workers, named(ats, c.queued), 0)
			left := slices.DeleteFunc(named(ats, c.order), func(at int) bool { return x.kind(at) == api.Plain })
			x.list(t, "P10.6", left...)
			x.marked(t, "P10.4", append(ats, k, e)...)
		})
	}
}

// A weak field of a queued object isn't strong; one to itself is kept, since it is marked.
func TestSettleOfWhatQueuedOnesHoldWeakly(t *testing.T) {
	x := made(t, small())
	b := x.lay(t, api.SpaceEden, api.Final)
	w := x.lay(t, api.SpaceEden, api.Weak, b)
	a := x.lay(t, api.SpaceEden, api.Final, w, 0)
	x.point(t, a, 1, a)
	x.add(t, a)
	x.settle(t, 1, []int{a}, 1)
	x.marked(t, "P10.4", a, w)
	x.fields(t, "P10.4", w, 0)
	x.fields(t, "P10.4", a, w, a)
	want(t, "P10.4: the kind of what isn't in the registry", x.kind(b), api.Final)
}

// Which fields become null, of each kind, in marked objects alone.
func TestSettleClears(t *testing.T) {
	const dead, live = 1, 2
	for _, c := range []struct {
		kind          int
		fields, after []int
	}{
		{api.Weak, []int{dead}, []int{0}},
		{api.Weak, []int{live}, []int{live}},
		{api.Weak, []int{0}, []int{0}},
		{api.Weak, []int{dead, dead, live}, []int{0, dead, live}},
		{api.Weak, []int{live, dead}, []int{live, dead}},
		{api.Weak, []int{0, dead}, []int{0, dead}},
		{api.Ephemeron, []int{dead, dead}, []int{0, 0}},
		{api.Ephemeron, []int{dead, live}, []int{0, 0}},
		{api.Ephemeron, []int{live, live}, []int{live, live}},
		{api.Ephemeron, []int{live, 0}, []int{live, 0}},
		{api.Ephemeron, []int{live, dead}, []int{live, dead}},
		{api.Ephemeron, []int{0, live}, []int{0, 0}},
		{api.Ephemeron, []int{0, dead}, []int{0, 0}},
		{api.Ephemeron, []int{dead, 0}, []int{0, 0}},
		{api.Ephemeron, []int{0, 0}, []int{0, 0}},
		{api.Ephemeron, []int{dead, dead, dead, live}, []int{0, 0, dead, live}},
		{api.Ephemeron, []int{0, 0, dead}, []int{0, 0, dead}},
		{api.Plain, []int{dead, live, dead}, []int{dead, live, dead}},
		{api.Final, []int{dead, dead}, []int{dead, dead}},
	} {
		for i, space := range all {
			for _, marked := range []bool{true, false} {
				x := made(t, small())
				x.a.Fill(space, 1)
				ats := append([]int{0}, x.lay(t, all[(i+1)%4], api.Plain), x.lay(t, all[(i+2)%4], api.Plain))
				x.mark(ats[live])
				at := x.lay(t, space, c.kind, named(ats, c.fields)...)
				x.put(t, space, api.Head{Kind: api.Plain, Raws: 1})
				after, cleared := c.fields, 0
				if marked {
					x.mark(at)
					after = c.after
				}
				for j, n := range c.fields {
					if after[j] != n {
						cleared++
					}
				}
				was := wordsMarked(x.m)
				x.settle(t, 1+i, nil, cleared)
				want(t, "P10.4: where nobody is queued nothing is marked", wordsMarked(x.m), was)
				x.fields(t, fmt.Sprintf("P10.4: kind %d with %v", c.kind, c.fields), at, named(ats, after)...)
			}
		}
	}
}

// named tells the addresses of numbers.
func named(ats, numbers []int) []int {
	var l []int
	for _, n := range numbers {
		l = append(l, ats[n])
	}
	return l
}

// Fields are looked at behind all queueing.
func TestSettleClearsBehindTheQueueing(t *testing.T) {
	each(func(workers int) {
		x := made(t, sized(120, 64, 100))
		l := x.plain(t, 3)
		last := x.lay(t, api.SpaceEden, api.Final, l[0])
		first := x.lay(t, api.SpaceEden, api.Final)
		w := x.lay(t, api.SpaceEden, api.Weak, l[0])
		e := x.lay(t, api.SpaceEden, api.Ephemeron, l[0], l[1])
		gone := x.lay(t, api.SpaceEden, api.Weak, l[2])
		none := x.lay(t, api.SpaceEden, api.Ephemeron, l[2], l[0])
		x.add(t, first, last)
		x.reach(t, workers, w, e, gone, none)
		x.settle(t, workers, []int{first, last}, 3)
		x.fields(t, "P10.4", w, l[0])
		x.fields(t, "P10.4", e, l[0], l[1])
		x.fields(t, "P10.4", gone, 0)
		x.fields(t, "P10.4", none, 0, 0)
		x.marked(t, "P10.4", w, e, gone, none, first, last, l[0], l[1])
	})
}

// What the registry may be handed by Update: other objects, more than once.
func TestSettleOfAnyObjects(t *testing.T) {
	x := made(t, small())
	l := x.plain(t, 4)
	w := x.lay(t, api.SpaceEden, api.Weak, l[0])
	e := x.lay(t, api.SpaceEden, api.Ephemeron, l[1], l[2])
	f := x.lay(t, api.SpaceEden, api.Final)
	x.hold(t, l[3], f, l[3], w, e, f, f)
	x.settle(t, 3, []int{l[3], f, w, e}, 0)
	x.list(t, "P10.4: they were marked when they came again", l[3], f, f)
	x.marked(t, "P10.4: as Plain ones they hold all", l[0], l[1], l[2], l[3], w, e, f)
	want(t, "P10.4: kinds", []int{x.kind(w), x.kind(e), x.kind(f)}, []int{api.Plain, api.Plain, api.Plain})
	x.fields(t, "P10.4", w, l[0])
	x.fields(t, "P10.4", e, l[1], l[2])
}

// An object of the registry that another one queued ahead of it holds stays: however long the way is.
func TestSettleKeepsWhatIsHeld(t *testing.T) {
	x := made(t, small())
	var l []int
	last := 0
	for range 8 {
		last = x.lay(t, api.SpaceEden, api.Final, last)
		l = append(l, last)
	}
	x.add(t, l[5], l[7], l[0], l[6], l[3])
	x.settle(t, 2, []int{l[5], l[7]}, 0)
	x.list(t, "P10.6", l[0], l[6], l[3])
	x.marked(t, "P10.4", l...)
}

// A circle of Final ones: the first of them is queued, the others stay; again and again till each was queued once.
func TestEachIsQueuedOnce(t *testing.T) {
	x := made(t, small())
	var l []int
	for range 4 {
		l = append(l, x.lay(t, api.SpaceEden, api.Final, 0))
	}
	for i, at := range l {
		x.point(t, at, 0, l[(i+1)%4])
	}
	order := []int{l[2], l[0], l[3], l[1]}
	x.add(t, order...)
	for i, at := range order {
		x.m.Clear()
		x.settle(t, 1, []int{at}, 0)
		x.list(t, "P10.6", order[i+1:]...)
		x.marked(t, "P10.6", l...)
		want(t, "P10.6: Add of what was queued", x.r.Add(at), api.ErrWeakKind)
	}
	x.m.Clear()
	x.settle(t, 1, nil, 0)
	x.marked(t, "P10.6: nothing is left to be queued")
}

func TestSettleRefused(t *testing.T) {
	x, l := finals(t, 2)
	w := x.lay(t, api.SpaceEden, api.Weak, l[0])
	x.add(t, l...)
	x.mark(w)
	was := x.told()
	for _, workers := range append(slices.Clone(odd), 0, 9, 10, 257) {
		queued, cleared, e := weak.Settle(x.a, x.m, x.r, workers)
		if len(queued) != 0 || cleared != 0 || e != api.ErrTraceWorkers || x.told() != was {
			t.Errorf("P10.4: Settle by %d: %v, %d, error %d, want %d, or something has changed", workers, queued, cleared, e, api.ErrTraceWorkers)
		}
		queued, cleared, e = weak.Settle(x.a, x.m, weak.New(x.a), workers)
		if len(queued) != 0 || cleared != 0 || e != api.ErrTraceWorkers || x.told() != was {
			t.Errorf("P10.4: Settle of an empty registry by %d: %v, %d, error %d, or something has changed", workers, queued, cleared, e)
		}
	}
	x.settle(t, 8, l, 0)
}
