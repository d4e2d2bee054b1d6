package remset_test

import (
	"fmt"
	"slices"
	"testing"

	"midden/api"
)

// TestPruneOrder: those of the list first, in their order, then those of more, in theirs; each once.
func TestPruneOrder(t *testing.T) {
	a, s := memory(t)
	store(t, s, 201, 0, 1, api.OK)
	store(t, s, 193, 1, 65, api.OK)
	point(t, a, 197, 0, 1)
	point(t, a, 205, 1, 5)
	s.Prune(205, 201, 205, 197, 193, 197, 201)
	list(t, "P6.4", s, 201, 193, 205, 197)
	want(t, "P6.4: Held", heldAt(a), []int{193, 197, 201, 205})
	s.Prune(197, 193)
	list(t, "P6.4: they have their places", s, 201, 193, 205, 197)
}

// TestPruneDrops: who holds no young pointer any more, from the list and of more; Held tells it.
func TestPruneDrops(t *testing.T) {
	a, s := memory(t)
	for _, at := range []int{205, 193, 201} {
		store(t, s, at, 0, 1, api.OK)
	}
	store(t, s, 193, 0, 197, api.OK)
	hold(t, a, true, 197)
	s.Prune(197)
	list(t, "P6.4", s, 205, 201)
	want(t, "P6.4: Held", heldAt(a), []int{201, 205})
	store(t, s, 193, 1, 5, api.OK)
	list(t, "P6.2: what was pruned comes in anew, at the end", s, 205, 201, 193)
	want(t, "P6.2: Held", heldAt(a), []int{193, 201, 205})
	point(t, a, 201, 0, 129)
	point(t, a, 205, 0, 0)
	point(t, a, 193, 1, 0)
	s.Prune()
	list(t, "P6.4", s)
	want(t, "P6.4: Held", heldAt(a), []int{})
	missing(t, s, 0, false)
}

// TestPruneTakesTenuredAlone: others of more have Held false behind it, wherever they stand, and whatever they hold.
func TestPruneTakesTenuredAlone(t *testing.T) {
	a, s := memory(t)
	for _, at := range []int{1, 5, 65, 129, 197} {
		point(t, a, at, 0, 1)
	}
	hold(t, a, true, 1, 5, 65, 129, 193, 201)
	s.Prune(1, 65, 129, 193, 197)
	list(t, "P6.4", s, 197)
	want(t, "P6.4: Held", heldAt(a), []int{5, 197, 201})
}

// TestPruneSetsHeld: of what stays, too, should somebody have written it otherwise.
func TestPruneSetsHeld(t *testing.T) {
	a, s := memory(t)
	store(t, s, 193, 0, 1, api.OK)
	store(t, s, 197, 0, 1, api.OK)
	hold(t, a, false, 193)
	s.Prune()
	want(t, "P6.4: Held", heldAt(a), []int{193, 197})
}

// TestPruneOfNothing: addresses at which nothing stands.
func TestPruneOfNothing(t *testing.T) {
	a, s := memory(t)
	store(t, s, 197, 0, 1, api.OK)
	ahead := told(a, s)
	s.Prune(odd...)
	s.Prune(2, 3, 64, 70, 194, 195, 209, 292, 293)
	s.Prune(nil...)
	s.Prune([]int{}...)
	want(t, "P6.4", told(a, s), ahead)
}

// TestPruneOfWhatIsGone: an address of the list where nothing, or another object, stands by now.
func TestPruneOfWhatIsGone(t *testing.T) {
	a, s := memory(t)
	for _, at := range []int{193, 197, 201, 205} {
		store(t, s, at, 0, 1, api.OK)
	}
	a.Cut(api.SpaceTenured, 201)
	s.Prune()
	list(t, "P6.4: nothing stands there", s, 193, 197)
	a.Cut(api.SpaceTenured, 193)
	put(t, a, api.SpaceTenured, api.Head{Serial: 8, Kind: api.Plain, Ptrs: 2, Held: true})
	put(t, a, api.SpaceTenured, api.Head{Serial: 9, Kind: api.Weak, Ptrs: 2})
	store(t, s, 197, 1, 5, api.OK)
	list(t, "P6.2", s, 193, 197)
	s.Prune()
	list(t, "P6.4: others stand there", s, 197)
	want(t, "P6.4: Held", heldAt(a), []int{197})
}

// TestPruneLooksFirst: who holds a young pointer is settled as the words stand when it is called, where objects overlap, too.
func TestPruneLooksFirst(t *testing.T) {
	c := small()
	c.Eden, c.Survivor = 80, 80
	a, s := made(t, c) // A from 81 on, B from 161 on, tenured from 241 on
	plain(t, a, api.SpaceTenured, 2, 2)
	a.Swap()
	// Two words that are an address and the header, with Held, of an object without fields; without Held they are 32 less.
	for _, c := range []struct {
		w  uint64
		in []int
	}{{165, []int{241}}, {101, nil}} { // from B, young, to A; from A to eden, young
		a.SetWord(243, c.w)
		s.Prune(243, 241)
		list(t, "P6.4", s, c.in...)
		want(t, "P6.4: the header at 243", a.Word(243), c.w-32)
		a.SetWord(243, 0)
		s.Prune()
	}
	// An object at 243 that holds the young address 1; as a field of the one at 241 its header is no address.
	a.SetWord(243, 1+4+1<<18)
	a.SetWord(245, 1)
	s.Prune(241, 243)
	list(t, "P6.4", s, 243)
	want(t, "P6.4: the header at 243", a.Word(243), 1+4+32+1<<18)
}

// TestRebuild: by rising address, whatever the list was; Held of the others is false.
func TestRebuild(t *testing.T) {
	a, s := memory(t)
	for _, at := range []int{205, 197, 201} {
		store(t, s, at, 0, 1, api.OK)
	}
	store(t, s, 197, 0, 0, api.OK)
	point(t, a, 193, 1, 65)
	hold(t, a, false, 205)
	s.Rebuild()
	list(t, "P6.5", s, 193, 201, 205)
	want(t, "P6.5: Held", heldAt(a), []int{193, 201, 205})
	for _, at := range []int{193, 201, 205} {
		point(t, a, at, 0, 129)
		point(t, a, at, 1, 129)
	}
	hold(t, a, true, 197)
	s.Rebuild()
	list(t, "P6.5: the to space isn't young", s)
	want(t, "P6.5: Held", heldAt(a), []int{})
	a.Swap()
	s.Rebuild()
	list(t, "P6.5: behind Swap", s, 193, 201, 205)
}

// TestRebuildLeavesTheYoung: it writes Held of tenured objects alone.
func TestRebuildLeavesTheYoung(t *testing.T) {
	a, s := memory(t)
	point(t, a, 1, 0, 5)
	point(t, a, 193, 0, 5)
	hold(t, a, true, 5, 65, 129, 197)
	s.Rebuild()
	list(t, "P6.5", s, 193)
	want(t, "P6.5: Held", heldAt(a), []int{5, 65, 129, 193})
}

// TestRebuildWhereObjectsSlid: where those of the old list stood, other words stand by now, and stay: a field may look like a header with Held.
func TestRebuildWhereObjectsSlid(t *testing.T) {
	a, s := memory(t)
	store(t, s, 197, 0, 1, api.OK)
	store(t, s, 201, 0, 1, api.OK)
	a.Cut(api.SpaceTenured, 193)
	plain(t, a, api.SpaceTenured, 6)
	point(t, a, 193, 2, 37)
	if h, ok := a.Head(197); !ok || !h.Held {
		t.Fatal("no header with Held happens to stand at 197")
	}
	s.Rebuild()
	list(t, "P6.5", s, 193)
	if p, ok := a.Ptr(193, 2); p != 37 || !ok {
		t.Errorf("P6.5: a field has become %d", p)
	}
	point(t, a, 193, 2, 0)
	store(t, s, 193, 0, 1, api.OK)
	s.Prune(197)
	list(t, "P6.5: what was in the old list isn't any more", s, 193)
}

// TestRebuildForgets: what was in the old list and isn't met comes in anew at a store.
func TestRebuildForgets(t *testing.T) {
	a, s := memory(t)
	store(t, s, 193, 0, 1, api.OK)
	store(t, s, 205, 0, 1, api.OK)
	a.Cut(api.SpaceTenured, 205)
	s.Rebuild()
	list(t, "P6.5", s, 193)
	plain(t, a, api.SpaceTenured, 2)
	store(t, s, 205, 1, 5, api.OK)
	list(t, "P6.2", s, 193, 205)
	want(t, "P6.2: Held", heldAt(a), []int{193, 205})
}

// TestWalkThatFails: Rebuild and Missing come as far as the walk, Prune takes what stands behind.
func TestWalkThatFails(t *testing.T) {
	a, s := memory(t)
	for _, at := range []int{193, 201, 205} {
		point(t, a, at, 0, 1)
	}
	hold(t, a, true, 205)
	a.SetWord(197, 0)
	s.Rebuild()
	list(t, "P6.5", s, 193)
	missing(t, s, 0, false)
	if h, _ := a.Head(205); !h.Held {
		t.Errorf("P6.5: Held of an object that no walk meets is written")
	}
	s.Prune(205, 201)
	list(t, "P6.4", s, 193, 205, 201)
}

// TestMissing: the first by address that isn't in the list; asking changes nothing.
func TestMissing(t *testing.T) {
	a, s := memory(t)
	point(t, a, 1, 0, 5)
	missing(t, s, 0, false)
	for _, at := range []int{205, 193, 201} {
		point(t, a, at, 1, 1)
	}
	hold(t, a, true, 193)
	ahead := told(a, s)
	for _, at := range []int{193, 201, 205} {
		missing(t, s, at, true)
		missing(t, s, at, true)
		want(t, "P6.6: asking", told(a, s), ahead)
		store(t, s, at, 1, 1, api.OK)
		ahead = told(a, s)
	}
	missing(t, s, 0, false)
	point(t, a, 197, 0, 129)
	missing(t, s, 0, false)
	a.Swap()
	missing(t, s, 197, true)
	point(t, a, 197, 0, 0)
	missing(t, s, 0, false)
}

// TestHoldsByAddress: an address is young above a space's top, too; a word that is none isn't.
func TestHoldsByAddress(t *testing.T) {
	for _, c := range []struct {
		w  uint64
		is bool
	}{{0, false}, {1, true}, {64, true}, {65, true}, {128, true}, {129, false}, {192, false}, {193, false}, {292, false}, {293, false}, {1 << 32, false}, {1<<32 + 1, false}, {1<<64 - 1, false}, {1<<63 + 1, false}} {
		a, s := memory(t)
		a.SetWord(196, c.w)
		if _, ok := s.Missing(); ok != c.is {
			t.Errorf("P6.6: a field that holds %d: %v", c.w, ok)
		}
		var in []int
		if c.is {
			in = []int{193}
		}
		s.Prune(193)
		list(t, "P6.4", s, in...)
		s.Rebuild()
		list(t, "P6.5", s, in...)
	}
}

// TestRawFieldsDontCount: nor the header's words, nor those of the next object.
func TestRawFieldsDontCount(t *testing.T) {
	a, s := made(t, small())
	put(t, a, api.SpaceTenured, api.Head{Serial: 1, Kind: api.Plain, Ptrs: 1, Raws: 1})
	plain(t, a, api.SpaceTenured, 0)
	a.SetRaw(193, 0, 1)
	s.Prune(193, 197)
	list(t, "P6.4", s)
	s.Rebuild()
	list(t, "P6.5", s)
	missing(t, s, 0, false)
}

// TestFillersArePassed: words that are no object hold nothing, whatever they are.
func TestFillersArePassed(t *testing.T) {
	a, s := made(t, small())
	plain(t, a, api.SpaceEden, 0)
	at := plain(t, a, api.SpaceTenured, 1)[0]
	a.Fill(api.SpaceTenured, 5)
	next := plain(t, a, api.SpaceTenured, 1)[0]
	for i := range 4 {
		a.SetWord(at+4+i, 1)
	}
	point(t, a, next, 0, 1)
	missing(t, s, next, true)
	s.Rebuild()
	list(t, "P6.5", s, next)
	s.Prune(at + 3)
	list(t, "P6.4", s, next)
}

// TestMemoryIsApart: what is handed in is neither changed nor kept, what is answered is new.
func TestMemoryIsApart(t *testing.T) {
	a, s := memory(t)
	for _, at := range []int{193, 197, 201, 205} {
		point(t, a, at, 0, 1)
	}
	store(t, s, 193, 0, 1, api.OK)
	room := []int{205, 193, 205, 7, 7, 7, 7, 7}
	s.Prune(room[:3]...)
	want(t, "DOC 3: what is handed in", room, []int{205, 193, 205, 7, 7, 7, 7, 7})
	spoil(room)
	list(t, "DOC 3: what is handed in isn't kept", s, 193, 205)
	first, second := s.List(), s.List()
	spoil(first)
	want(t, "DOC 3: another answer", second, []int{193, 205})
	store(t, s, 197, 0, 1, api.OK)
	s.Prune(201)
	want(t, "DOC 3: an earlier answer", second, []int{193, 205})
	list(t, "DOC 3: the list", s, 193, 205, 197, 201)
	held := s.List()
	s.Prune(held...)
	s.Rebuild()
	want(t, "DOC 3: an earlier answer", held, []int{193, 205, 197, 201})
}

// spoil overwrites a list and its spare room.
func spoil(l []int) {
	l = l[:cap(l)]
	for i := range l {
		l[i] = -7
	}
}

// TestPruneOfMany: any number of addresses, the same ones many times, in the greatest arena.
func TestPruneOfMany(t *testing.T) {
	a, s := great(t)
	young := plain(t, a, api.SpaceEden, 0)[0]
	var ats, named []int
	for a.Free(api.SpaceTenured) >= 3 {
		at := plain(t, a, api.SpaceTenured, 1)[0]
		point(t, a, at, 0, young)
		ats = append(ats, at)
	}
	for range 20 {
		named = append(named, ats...)
	}
	slices.Reverse(named)
	s.Prune(named...)
	want(t, "P6.4", fmt.Sprint(s.List()), fmt.Sprint(named[:len(ats)]))
	s.Rebuild()
	want(t, "P6.5", fmt.Sprint(s.List()), fmt.Sprint(ats))
	a.Cut(api.SpaceTenured, ats[0])
	s.Prune(named...)
	list(t, "P6.4", s)
}

// TestSetsAreApart: two of two arenas don't touch one another.
func TestSetsAreApart(t *testing.T) {
	a, s := memory(t)
	b, r := memory(t)
	store(t, s, 193, 0, 1, api.OK)
	list(t, "P6.2", r)
	want(t, "Held", [][]int{heldAt(a), heldAt(b)}, "[[193] []]")
	r.Rebuild()
	list(t, "P6.5", s, 193)
}
