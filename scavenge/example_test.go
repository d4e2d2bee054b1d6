package scavenge_test

import (
	"testing"

	"midden/api"
)

// chapter: the memory of the chapter's examples.
func chapter(t *testing.T) *memory {
	t.Helper()
	m := made(t, small())
	m.plain(t, api.SpaceEden, 1, 0)
	m.plain(t, api.SpaceEden, 2, 8, 4)
	m.plain(t, api.SpaceEden, 3)
	want(t, "Put", m.where(api.SpaceEden), "[[1 1] [4 2] [8 3]]")
	m.hold(t, 4)
	return m
}

func slot(t *testing.T, m *memory, i, at int) {
	t.Helper()
	if got, e := m.r.Get(0, i); got != at || e != api.OK {
		t.Errorf("P9.4: the slot %d holds %d, want %d", i, got, at)
	}
}

func TestFirstExample(t *testing.T) {
	m := chapter(t)
	x := m.run(t, 2, api.CycleMinor)
	want(t, "P9.3, P9.4: B", m.things(api.SpaceB), []thing{
		{129, api.Head{Serial: 2, Kind: api.Plain, Ptrs: 2, Age: 1}, []int{133, 129}, []uint64{}},
		{133, api.Head{Serial: 3, Kind: api.Plain, Age: 1}, []int{}, []uint64{}},
	})
	slot(t, m, 0, 129)
	want(t, "P9.6: the answer", x, api.Minor{Copied: 2, Words: [16]int{1: 6}})
	want(t, "P9.5: from", m.a.From(), api.SpaceB)
	for _, space := range []int{api.SpaceEden, api.SpaceA, api.SpaceTenured} {
		want(t, "P9.5, P9.7: the other spaces", m.occupied(space), 0)
	}
}

func TestSecondExample(t *testing.T) {
	m := chapter(t)
	m.run(t, 2, api.CycleMinor)
	x := m.run(t, 2, api.CycleMinor)
	want(t, "P9.6: the second answer", x, api.Minor{Copied: 2, Words: [16]int{2: 6}})
	want(t, "P9.3, P9.4: A", m.things(api.SpaceA), []thing{
		{65, api.Head{Serial: 2, Kind: api.Plain, Ptrs: 2, Age: 2}, []int{69, 65}, []uint64{}},
		{69, api.Head{Serial: 3, Kind: api.Plain, Age: 2}, []int{}, []uint64{}},
	})
	want(t, "P9.5: from", m.a.From(), api.SpaceA)
	x = m.run(t, 2, api.CycleMinor)
	want(t, "P9.6: the third answer", x, api.Minor{Promoted: 2})
	want(t, "P9.3, P9.4: tenured", m.things(api.SpaceTenured), []thing{
		{193, api.Head{Serial: 2, Kind: api.Plain, Ptrs: 2, Age: 3}, []int{197, 193}, []uint64{}},
		{197, api.Head{Serial: 3, Kind: api.Plain, Age: 3}, []int{}, []uint64{}},
	})
	slot(t, m, 0, 193)
	want(t, "P9.5: the list", m.s.List(), "[]")
}

func TestThirdExample(t *testing.T) {
	m := chapter(t)
	x := m.run(t, 2, api.CycleAll)
	want(t, "P9.6: the answer", x, api.Minor{Promoted: 2})
	want(t, "P9.3, P9.4: tenured", m.things(api.SpaceTenured), []thing{
		{193, api.Head{Serial: 2, Kind: api.Plain, Ptrs: 2, Age: 1}, []int{197, 193}, []uint64{}},
		{197, api.Head{Serial: 3, Kind: api.Plain, Age: 1}, []int{}, []uint64{}},
	})
	slot(t, m, 0, 193)
	want(t, "P9.8: young words", m.youngOccupied(), 0)
}

func TestFourthExample(t *testing.T) {
	m := chapter(t)
	m.plain(t, api.SpaceTenured, 9, 0)
	m.store(t, 193, 0, 1)
	x := m.run(t, 2, api.CycleMinor)
	want(t, "P9.4, P9.7: B", m.where(api.SpaceB), "[[129 2] [133 1] [136 3]]")
	want(t, "P9.4: the tenured object", m.thing(193), thing{193, api.Head{Serial: 9, Kind: api.Plain, Ptrs: 1, Held: true}, []int{133}, []uint64{}})
	want(t, "P9.5: the list", m.s.List(), "[193]")
	want(t, "P9.6: the answer", x, api.Minor{Copied: 3, Words: [16]int{1: 9}})
}
