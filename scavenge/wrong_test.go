package scavenge_test

import (
	"fmt"
	"slices"
	"testing"

	"midden/api"
	"midden/cell"
	"midden/scavenge"
)

func TestGuaranteed(t *testing.T) {
	for _, c := range []struct {
		eden, a, b, tenured int
		swap, is            bool
	}{
		{0, 0, 0, 0, false, true},
		{0, 0, 0, 100, false, true},
		{1, 0, 0, 100, false, false},
		{0, 1, 0, 100, false, false},
		{0, 0, 1, 100, false, true},
		{0, 0, 1, 100, true, false},
		{0, 1, 0, 100, true, true},
		{60, 40, 0, 0, false, true},
		{60, 41, 0, 0, false, false},
		{61, 40, 0, 0, false, false},
		{60, 0, 64, 40, false, true},
		{60, 0, 64, 41, false, false},
		{20, 64, 10, 70, true, true},
		{20, 64, 10, 71, true, false},
		{64, 64, 0, 0, false, false},
	} {
		m := made(t, small())
		for i, n := range []int{c.eden, c.a, c.b, c.tenured} {
			if n > 0 {
				m.fill(t, all[i], n)
			}
		}
		if c.swap {
			m.a.Swap()
		}
		was := m.image()
		want(t, fmt.Sprintf("P9.1: %+v", c), scavenge.Guaranteed(m.a), c.is)
		want(t, "P9.1: what is asked stays", m.image(), was)
	}
}

func TestRefused(t *testing.T) {
	cycles := append(slices.Clone(odd), api.CycleNone, api.CycleMajor, 4, 5)
	thresholds := append(slices.Clone(odd), 0, 16, 17)
	for _, guaranteed := range []bool{true, false} {
		m := chapter(t)
		m.registry = []int{4, 0, 1}
		m.plain(t, api.SpaceTenured, 7, 0)
		m.store(t, 193, 0, 8)
		m.r.Open(1)
		if !guaranteed {
			m.fill(t, api.SpaceTenured, 97)
		}
		was := m.image()
		refused := func(threshold, cycle int, e api.Errno) {
			t.Helper()
			x, got := scavenge.Run(m.a, m.r, m.s, m.registry, threshold, cycle)
			if got != e || fmt.Sprint(x) != fmt.Sprint(api.Minor{}) || m.image() != was {
				t.Errorf("P9.2: threshold %d, cycle %d: %v, error %d, want %d, or something has changed", threshold, cycle, x, got, e)
			}
		}
		for _, cycle := range cycles {
			for _, threshold := range append(slices.Clone(thresholds), 1, 15) {
				refused(threshold, cycle, api.ErrScavMode)
			}
		}
		for _, threshold := range thresholds {
			refused(threshold, api.CycleMinor, api.ErrScavThreshold)
			refused(threshold, api.CycleAll, api.ErrScavThreshold)
		}
		if !guaranteed {
			refused(1, api.CycleMinor, api.ErrScavGuarantee)
			refused(15, api.CycleAll, api.ErrScavGuarantee)
			continue
		}
		m.run(t, 15, api.CycleMinor)
		m.run(t, 1, api.CycleAll)
	}
}

// TestJustGuaranteed: at the bound the cycle is run, a word beyond it isn't, though all the young ones are garbage.
func TestJustGuaranteed(t *testing.T) {
	m := chapter(t)
	m.hold(t, 0)
	m.fill(t, api.SpaceTenured, 91)
	was := m.image()
	m.fill(t, api.SpaceEden, 1)
	if _, e := scavenge.Run(m.a, m.r, m.s, nil, 2, api.CycleMinor); e != api.ErrScavGuarantee {
		t.Errorf("P9.2: error %d", e)
	}
	m.a.Cut(api.SpaceEden, 10)
	m.a.SetWord(10, 0)
	want(t, "P9.2: what is refused changes nothing", m.image(), was)
	m.run(t, 2, api.CycleMinor)
	want(t, "P9.7: nothing is reached", m.youngOccupied(), 0)
}

// TestWrongAddresses: roots and a registry that hold no objects' addresses.
func TestWrongAddresses(t *testing.T) {
	for _, cycle := range []int{api.CycleMinor, api.CycleAll} {
		for _, at := range append(slices.Clone(odd), 2, 3, 5, 10, 64, 65, 70, 128, 129, 140, 193, 200, 292, 293) {
			m := chapter(t)
			m.r.Set(0, 1, at)
			m.r.Enqueue(at)
			m.r.Open(at)
			x, e := scavenge.Run(m.a, m.r, m.s, []int{at, 8, at}, 2, cycle)
			if e != api.OK || len(x.Registry) != 3 || x.Copied+x.Promoted < 2 {
				t.Errorf("rule 10: with %d: %v, error %d", at, x, e)
			}
		}
	}
}

// TestOverlap: objects that lie in one another come to more words than the young spaces have. Those for which there is no room stay.
func TestOverlap(t *testing.T) {
	for _, cycle := range []int{api.CycleMinor, api.CycleAll} {
		m := made(t, small())
		m.a.Take(api.SpaceEden, 64)
		for i := range 8 {
			meta, _ := cell.Pack(api.Head{Kind: api.Plain, Raws: 62 - 2*i})
			m.a.SetWord(1+2*i, meta)
			m.registry = append(m.registry, 1+2*i)
		}
		slices.Reverse(m.registry)
		x := m.run(t, 3, cycle)
		young := 0
		for _, at := range x.Registry {
			if at < 65 {
				young++
			}
		}
		if young == 0 || young+x.Copied+x.Promoted != 8 {
			t.Errorf("rule 10: %v, %d of 8 stay", x, young)
		}
	}
}

// TestAnyWords: memories that aren't sound at all: words of all forms, overlapping objects, a to space that isn't empty.
func TestAnyWords(t *testing.T) {
	d := dice(9)
	runs := 0
	for range 3000 {
		m := made(t, sized(64, 64, 64+d.below(140)))
		m.scatter(&d)
		for range 3 {
			threshold, cycle := 1+d.below(15), []int{api.CycleMinor, api.CycleAll}[d.below(2)]
			x, e := scavenge.Run(m.a, m.r, m.s, m.registry, threshold, cycle)
			if e != api.OK && e != api.ErrScavGuarantee {
				t.Fatalf("P9.2: error %d", e)
			}
			if e == api.OK && len(x.Registry) != len(m.registry) {
				t.Fatalf("P9.6: the registry %v of %v", x.Registry, m.registry)
			}
			if e == api.OK {
				runs++
			}
		}
	}
	if runs < 2000 {
		t.Errorf("only %d cycles were run", runs)
	}
}

// scatter takes some words of each space, writes anything into the whole array, and makes the list, the roots and the registry hold any addresses.
func (m *memory) scatter(d *dice) {
	_, words := m.a.Bounds(api.SpaceTenured)
	young, _ := m.a.Put(api.SpaceEden, api.Head{Serial: 1, Kind: api.Plain})
	for m.a.Free(api.SpaceTenured) > 60 {
		if at, _ := m.a.Put(api.SpaceTenured, api.Head{Serial: 1, Kind: api.Plain, Ptrs: 1}); d.below(3) == 0 {
			m.s.Store(at, 0, young)
		}
	}
	for _, space := range all {
		first, _ := m.a.Bounds(space)
		m.a.Cut(space, first)
		m.a.Take(space, 1+d.below(40))
	}
	for at := 1; at < words; at++ {
		m.a.SetWord(at, d.anyWord(words))
	}
	for i := range 8 {
		m.r.Set(0, i, d.below(words+3))
		m.registry = append(m.registry, d.below(words+3)-2)
	}
	if d.below(2) == 0 {
		m.a.Swap()
	}
}

// anyWord tells mostly words that are headers, fillers, forwarding words or addresses, some of them both.
func (d *dice) anyWord(words int) uint64 {
	meta, _ := cell.Pack(d.head(1))
	return []uint64{meta, meta, meta, cell.Filler(1 + d.below(3)), cell.Forward(1 + d.below(words)), cell.Forward(1 << d.below(41)), uint64(d.below(words)), uint64(d.below(words)), 5, 37, d.word()}[d.below(11)]
}
