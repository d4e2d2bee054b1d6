package weak_test

import (
	"slices"
	"testing"

	"midden/api"
	"midden/weak"
)

// finals tells a memory with so many Final objects in eden, none of them in the registry.
func finals(t *testing.T, n int) (*memory, []int) {
	t.Helper()
	x := made(t, small())
	var l []int
	for range n {
		l = append(l, x.lay(t, api.SpaceEden, api.Final))
	}
	return x, l
}

func TestNewIsEmpty(t *testing.T) {
	x, l := finals(t, 3)
	x.list(t, "P10.1: a new one")
	if x.r.All() == nil {
		t.Error("P10.2: All answers nil")
	}
	x.add(t, l...)
	other := weak.New(x.a)
	want(t, "P10.1: another one of the arena", len(other.List()), 0)
	want(t, "P10.1: Add to it", other.Add(l[1]), api.OK)
	x.list(t, "P10.1: the first one", l...)
}

func TestAddLaysAtTheEnd(t *testing.T) {
	x := made(t, small())
	var l []int
	for _, space := range []int{api.SpaceTenured, api.SpaceB, api.SpaceEden, api.SpaceA} {
		l = append(l, x.put(t, space, api.Head{Serial: 9, Kind: api.Final, Ptrs: 1, Raws: 1, Age: 3, Site: 7, Held: true}), x.lay(t, space, api.Final))
	}
	was := x.told()
	for i, at := range l {
		x.add(t, at)
		x.list(t, "P10.1", l[:i+1]...)
	}
	x.r.Update(func(int) int { return 0 })
	y := &memory{x.a, x.m, weak.New(x.a)}
	want(t, "P10.1: Add writes nothing", y.told(), was)
}

func TestAddOfNoFinal(t *testing.T) {
	x, l := finals(t, 2)
	x.add(t, l[0])
	held := x.lay(t, api.SpaceEden, api.Plain, l[1])
	x.lay(t, api.SpaceEden, api.Weak, l[1])
	eph := x.lay(t, api.SpaceEden, api.Ephemeron, l[1], l[1])
	x.a.Fill(api.SpaceEden, 3)
	above := x.lay(t, api.SpaceTenured, api.Final)
	x.a.Cut(api.SpaceTenured, above)
	was := x.told()
	ats := slices.Concat(odd, []int{0, held, held + 3, eph, eph + 4, above, wordsIn(x.a) - 1, wordsIn(x.a)})
	for at := range wordsIn(x.a) {
		if at != l[0] && at != l[1] {
			ats = append(ats, at)
		}
	}
	for _, at := range ats {
		if e := x.r.Add(at); e != api.ErrWeakKind {
			t.Errorf("P10.1: Add(%d): error %d, want %d", at, e, api.ErrWeakKind)
		}
	}
	want(t, "P10.1: what is refused changes nothing", x.told(), was)
	x.add(t, l[1])
}

func TestAddTwice(t *testing.T) {
	x, l := finals(t, 3)
	x.add(t, l...)
	was := x.told()
	for _, at := range l {
		want(t, "P10.1: Add of what is in it", x.r.Add(at), api.ErrWeakTwice)
	}
	want(t, "P10.1: what is refused changes nothing", x.told(), was)
}

// The kind comes first, where both errors apply.
func TestAddTwiceOfNoFinal(t *testing.T) {
	x, l := finals(t, 2)
	x.add(t, l...)
	h, _ := x.a.Head(l[0])
	h.Kind = api.Plain
	x.a.SetHead(l[0], h)
	want(t, "P10.1: Add of a Plain one that is in it", x.r.Add(l[0]), api.ErrWeakKind)
	x.a.Cut(api.SpaceEden, l[1])
	want(t, "P10.1: Add of what is gone and is in it", x.r.Add(l[1]), api.ErrWeakKind)
	x.list(t, "P10.1", l...)
}

// What is in it is what was laid there last.
func TestAddBehindUpdate(t *testing.T) {
	x, l := finals(t, 4)
	x.add(t, l[0], l[1])
	x.r.Update(func(at int) int { return map[int]int{l[0]: l[2], l[1]: l[0]}[at] })
	want(t, "P10.1: Add", []api.Errno{x.r.Add(l[2]), x.r.Add(l[0])}, []api.Errno{api.ErrWeakTwice, api.ErrWeakTwice})
	x.add(t, l[1], l[3])
	x.list(t, "P10.2", l[2], l[0], l[1], l[3])
	x.r.Update(func(int) int { return l[3] })
	want(t, "P10.1: Add", x.r.Add(l[3]), api.ErrWeakTwice)
	x.add(t, l[1])
	x.list(t, "P10.2: one more than once", l[3], l[3], l[3], l[3], l[1])
}

func TestAddBehindSettle(t *testing.T) {
	x, l := finals(t, 3)
	x.add(t, l...)
	x.mark(l[1])
	x.settle(t, 1, []int{l[0], l[2]}, 0)
	want(t, "P10.1: Add of what stays", x.r.Add(l[1]), api.ErrWeakTwice)
	for _, at := range []int{l[0], l[2]} {
		want(t, "P10.6: Add of what was queued", x.r.Add(at), api.ErrWeakKind)
		h, _ := x.a.Head(at)
		h.Kind = api.Final
		x.a.SetHead(at, h)
		x.add(t, at)
	}
	x.list(t, "P10.1: what was taken out isn't in it any more", l[1], l[0], l[2])
}

func TestUpdate(t *testing.T) {
	x, l := finals(t, 5)
	x.r.Update(func(int) int {
		t.Error("P10.2: Update of an empty registry asks")
		return 1
	})
	x.add(t, l[3], l[0], l[4], l[1])
	var asked []int
	x.r.Update(func(at int) int {
		asked = append(asked, at)
		return 1000 - at
	})
	want(t, "P10.2: asked, in order", asked, []int{l[3], l[0], l[4], l[1]})
	x.list(t, "P10.2", 1000-l[3], 1000-l[0], 1000-l[4], 1000-l[1])
	laid := []int{0, most, least, -1}
	x.r.Update(func(at int) int { return laid[slices.Index(x.r.List(), at)] })
	x.list(t, "P10.2: whatever that is", laid...)
	x.r.Update(func(at int) int { return at })
	x.list(t, "P10.2: the same", laid...)
	x.r.Update(func(int) int { return 0 })
	x.list(t, "P10.2: null", 0, 0, 0, 0)
	n := 0
	x.r.Update(func(int) int {
		n++
		return n
	})
	x.list(t, "P10.2: once for each, where they are the same", 1, 2, 3, 4)
	x.add(t, l[2])
	x.list(t, "P10.1: at the end", 1, 2, 3, 4, l[2])
}

func TestAllIsLeftEarlyAndGoneThroughAgain(t *testing.T) {
	x, l := finals(t, 4)
	x.add(t, l...)
	seq := x.r.All()
	for leave := range l {
		var met []int
		for at := range seq {
			met = append(met, at)
			if len(met) == leave+1 {
				break
			}
		}
		want(t, "P10.2: left early", met, l[:leave+1])
	}
	var outer []int
	for at := range seq {
		outer = append(outer, at)
		want(t, "P10.2: gone through while it is gone through", slices.Collect(seq), l)
	}
	want(t, "P10.2: the outer one", outer, l)
}

// It gives those that are there when one begins, whatever is done meanwhile.
func TestAllStandsAsItBegan(t *testing.T) {
	for what, change := range map[string]func(*memory, int){
		"Add":    func(x *memory, more int) { x.r.Add(more) },
		"Update": func(x *memory, more int) { x.r.Update(func(int) int { return more }) },
		"Settle": func(x *memory, _ int) { weak.Settle(x.a, x.m, x.r, 1) },
	} {
		for when := range 3 {
			x, l := finals(t, 4)
			x.add(t, l[:3]...)
			seq := x.r.All()
			var met []int
			for at := range seq {
				if len(met) == when {
					change(x, l[3])
				}
				met = append(met, at)
			}
			want(t, "P10.2: "+what+" meanwhile", met, l[:3])
			want(t, "P10.2: again, behind "+what, slices.Collect(seq), x.r.List())
			if slices.Equal(x.r.List(), l[:3]) {
				t.Errorf("P10.2: %s changes nothing", what)
			}
		}
	}
}

func TestAllBeginsWhenGoneThrough(t *testing.T) {
	x, l := finals(t, 3)
	seq := x.r.All()
	x.add(t, l[0], l[1])
	want(t, "P10.2: added ahead of the first going through", slices.Collect(seq), l[:2])
	x.add(t, l[2])
	want(t, "P10.2: added ahead of the second", slices.Collect(seq), l)
}

// What is answered is new memory, its spare room too.
func TestListsAreNew(t *testing.T) {
	x, l := finals(t, 5)
	x.add(t, l[:3]...)
	one, two := x.r.List(), x.r.List()
	spoil(one)
	want(t, "rule 3: another answer", two, l[:3])
	x.list(t, "rule 3: the registry", l[:3]...)
	x.add(t, l[3])
	want(t, "rule 3: an earlier answer", two, l[:3])
	spoil(two)
	x.list(t, "rule 3: the registry", l[:4]...)
	x.mark(l[1])
	queued, _, _ := weak.Settle(x.a, x.m, x.r, 1)
	list := x.r.List()
	spoil(queued)
	x.list(t, "rule 3: the registry behind Settle", l[1])
	want(t, "rule 3: another answer", list, l[1:2])
}

// spoil overwrites a list and its spare room.
func spoil(l []int) {
	l = l[:cap(l)]
	for i := range l {
		l[i] = -7
	}
}

// The greatest registry that an arena may have.
func TestManyFinals(t *testing.T) {
	x := made(t, sized(api.MaxSpace, api.MaxSpace, api.MaxSpace))
	var l []int
	for _, space := range all {
		for x.a.Free(space) >= 2 {
			at := x.lay(t, space, api.Final)
			x.add(t, at)
			l = append(l, at)
		}
	}
	if !slices.Equal(x.r.List(), l) {
		t.Error("P10.1: the greatest registry holds others, or in another order")
	}
	for _, at := range []int{l[0], l[len(l)/2], l[len(l)-1]} {
		want(t, "P10.1: Add", x.r.Add(at), api.ErrWeakTwice)
	}
	x.r.Update(func(at int) int { return -at })
	want(t, "P10.2: the last one", x.r.List()[len(l)-1], -l[len(l)-1])
}
