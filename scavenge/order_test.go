package scavenge_test

import (
	"testing"

	"midden/api"
)

// row lays so many plain objects with a field in eden: 1, 4, 7 and so on, of the serials 1, 2, 3 and so on, those of the list of age 14.
func row(t *testing.T, m *memory, n int, aged ...int) {
	t.Helper()
	for i := range n {
		m.plain(t, api.SpaceEden, uint64(i+1), 0)
	}
	for _, serial := range aged {
		h, _ := m.a.Head(3*serial - 2)
		h.Age = 14
		m.a.SetHead(3*serial-2, h)
	}
}

// TestGivers: the roots in their order, the registry, the list's objects, field by field, and only then the copies' fields.
func TestGivers(t *testing.T) {
	for _, c := range []struct{ threshold, cycle, space int }{{5, api.CycleMinor, api.SpaceB}, {5, api.CycleAll, api.SpaceTenured}} {
		m := made(t, small())
		row(t, m, 14)
		m.plain(t, api.SpaceTenured, 20, 0, 0, 0)
		m.plain(t, api.SpaceTenured, 21, 0)
		m.store(t, 198, 0, 31)
		m.store(t, 193, 2, 25)
		m.store(t, 193, 0, 28)
		m.point(t, 22, 0, 34) // serial 8 holds 12
		m.point(t, 34, 0, 37) // which holds 13
		m.registry = []int{13, 0, 10, 13, 193}
		m.r.Enqueue(4)
		m.r.Enqueue(7)
		m.r.Open(16)
		m.r.Push(0, 2)
		m.hold(t, 0, 19)
		m.r.Push(1, 1)
		m.r.Set(1, 0, 1)
		m.r.Pop(0)
		m.hold(t, 0, 22)
		m.run(t, c.threshold, c.cycle)
		serials := m.serials(c.space)
		if c.space == api.SpaceTenured {
			serials = serials[2:]
		}
		want(t, "P9.4: the order", serials, "[8 1 6 2 3 5 4 11 10 9 12 13]")
	}
}

// TestToSpaceFirst: behind the first promoted copy the to space is looked at again, ahead of the second one.
func TestToSpaceFirst(t *testing.T) {
	m := made(t, small())
	row(t, m, 12, 1, 2, 7)
	m.hold(t, 1, 4, 7) // 1 and 2 are promoted, 3 isn't
	m.point(t, 1, 0, 10)
	m.point(t, 4, 0, 13)
	m.point(t, 7, 0, 16)
	m.point(t, 10, 0, 19) // 1 holds 4, which holds 7, which is promoted
	m.point(t, 13, 0, 22) // 2 holds 5, which holds 8
	m.point(t, 16, 0, 25) // 3 holds 6, which holds 9
	m.point(t, 19, 0, 28) // 7 holds 10
	m.point(t, 22, 0, 31) // 8 holds 11
	x := m.run(t, 5, api.CycleMinor)
	want(t, "P9.4: the to space", m.serials(api.SpaceB), "[3 6 9 4 5 8 11 10]")
	want(t, "P9.4: the tenured space", m.serials(api.SpaceTenured), "[1 2 7]")
	want(t, "P9.5: the list", m.s.List(), "[193 196 199]")
	want(t, "P9.6: the answer", x, api.Minor{Copied: 8, Promoted: 3, Words: [16]int{1: 24}})
}

// TestPromotedInOrder: promoted copies are gone through in the order in which they were taken.
func TestPromotedInOrder(t *testing.T) {
	m := made(t, small())
	row(t, m, 8, 1, 2, 3, 4, 5, 6, 7, 8)
	m.hold(t, 1, 4)
	m.point(t, 1, 0, 7)
	m.point(t, 4, 0, 10)
	m.point(t, 7, 0, 13)
	m.point(t, 10, 0, 16)
	m.run(t, 5, api.CycleMinor)
	want(t, "P9.4: the tenured space", m.serials(api.SpaceTenured), "[1 2 3 4 5 6]")
}

// TestAllFields: weak fields and ephemerons' are gone through like all others.
func TestAllFields(t *testing.T) {
	m := made(t, small())
	row(t, m, 6)
	w := m.lay(t, api.SpaceEden, api.Head{Serial: 10, Kind: api.Weak}, 1)
	e := m.lay(t, api.SpaceEden, api.Head{Serial: 11, Kind: api.Ephemeron}, 0, 4)
	f := m.lay(t, api.SpaceTenured, api.Head{Serial: 12, Kind: api.Ephemeron}, 0, 0)
	v := m.lay(t, api.SpaceTenured, api.Head{Serial: 13, Kind: api.Weak}, 0)
	m.store(t, f, 0, 7)
	m.store(t, f, 1, 10)
	m.store(t, v, 0, 13)
	m.hold(t, w, e)
	m.run(t, 5, api.CycleMinor)
	want(t, "P9.4: the to space", m.serials(api.SpaceB), "[10 11 3 4 5 1 2]")
}

// TestNotYoung: what leads to tenured objects stays, and what only they hold, and aren't in the list for, isn't looked at.
func TestNotYoung(t *testing.T) {
	m := made(t, small())
	x := m.plain(t, api.SpaceTenured, 1, 0)
	y := m.plain(t, api.SpaceTenured, 2, x)
	m.hold(t, y, 0, x)
	m.registry = []int{x, 0, y}
	a := m.run(t, 1, api.CycleAll)
	want(t, "P9.4: the roots", m.r.All(), []int{y, x})
	want(t, "P9.7: the tenured space", m.things(api.SpaceTenured), []thing{
		{x, api.Head{Serial: 1, Kind: api.Plain, Ptrs: 1}, []int{0}, []uint64{}},
		{y, api.Head{Serial: 2, Kind: api.Plain, Ptrs: 1}, []int{x}, []uint64{}},
	})
	want(t, "P9.6: the answer", a, api.Minor{Registry: []int{x, 0, y}})
}
