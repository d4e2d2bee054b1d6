package scavenge_test

import (
	"slices"
	"testing"

	"midden/api"
	"midden/scavenge"
)

// TestEnd: the young spaces are empty, from and to have changed places, whichever was from.
func TestEnd(t *testing.T) {
	m := made(t, small())
	for range 4 {
		from, to := m.a.From(), m.a.To()
		m.fill(t, api.SpaceEden, 3)
		m.hold(t, m.plain(t, api.SpaceEden, 1, 0))
		m.fill(t, api.SpaceEden, 2)
		m.run(t, 15, api.CycleMinor)
		want(t, "P9.5: from, to", []int{m.a.From(), m.a.To()}, []int{to, from})
		want(t, "P9.5: eden and the old from space", []int{m.occupied(api.SpaceEden), m.occupied(from)}, "[0 0]")
		want(t, "P9.3: the new from space", m.occupied(to), 3)
	}
}

// TestPruned: who holds a young one still, in their order; then the promoted ones that do, in theirs.
func TestPruned(t *testing.T) {
	m := made(t, small())
	row(t, m, 10, 1, 2, 3, 4, 5)
	for i := range 4 {
		m.plain(t, api.SpaceTenured, uint64(20+i), 0, 0)
	}
	m.store(t, 205, 0, 16) // holds serial 6, which stays young
	m.store(t, 197, 1, 1)  // holds serial 1, which is promoted
	m.store(t, 193, 0, 19)
	m.store(t, 193, 0, 0) // holds none any more
	m.store(t, 201, 1, 4) // holds 2, which is promoted, and 7
	m.store(t, 201, 0, 19)
	m.point(t, 1, 0, 7)  // 1 holds 3, promoted
	m.point(t, 4, 0, 22) // 2 holds 8, young
	m.point(t, 7, 0, 25) // 3 holds 9, young
	m.point(t, 10, 0, 0)
	m.hold(t, 7, 10)
	m.run(t, 3, api.CycleMinor)
	want(t, "P9.4: the tenured space", m.where(api.SpaceTenured), "[[193 20] [197 21] [201 22] [205 23] [209 3] [212 4] [215 1] [218 2]]")
	want(t, "P9.5: the list", m.s.List(), "[205 201 209 218]")
	var held []int
	for at, h := range m.a.Objects(api.SpaceTenured) {
		if h.Held {
			held = append(held, at)
		}
	}
	want(t, "P9.5: who is held", held, "[201 205 209 218]")
	if at, ok := m.s.Missing(); ok {
		t.Errorf("P9.7: %d is missing", at)
	}
}

// TestNothingYoung: a cycle over nothing.
func TestNothingYoung(t *testing.T) {
	for _, cycle := range []int{api.CycleMinor, api.CycleAll} {
		m := made(t, small())
		want(t, "P9.6: the answer", m.run(t, 1, cycle), api.Minor{})
		want(t, "P9.5: from", m.a.From(), api.SpaceB)
	}
}

// TestRegistryIsApart: what is handed in isn't changed, its spare room neither; what is answered is the caller's.
func TestRegistryIsApart(t *testing.T) {
	m := made(t, small())
	row(t, m, 2)
	room := []int{4, 0, 1, 77, 78}
	x, e := scavenge.Run(m.a, m.r, m.s, room[:3], 5, api.CycleMinor)
	want(t, "P9.2: Run", int(e), 0)
	want(t, "P9.6: the registry", x.Registry, "[129 0 132]")
	want(t, "rule 3: what was handed in", room, "[4 0 1 77 78]")
	first := slices.Clone(x.Registry)
	y, _ := scavenge.Run(m.a, m.r, m.s, x.Registry, 5, api.CycleMinor)
	want(t, "P9.6: the registry", y.Registry, "[65 0 68]")
	want(t, "rule 3: what was handed in", x.Registry, first)
	was := m.told()
	for _, l := range [][]int{x.Registry, y.Registry} {
		for i := range l {
			l[i] = 5
		}
		_ = append(l, 6, 7, 8)
	}
	want(t, "rule 3: the memory", m.told(), was)
	z, _ := scavenge.Run(m.a, m.r, m.s, []int{65, 68}, 5, api.CycleMinor)
	want(t, "P9.6: the registry", z.Registry, "[129 132]")
	want(t, "rule 3: an earlier answer", y.Registry, "[5 5 5]")
}

// TestNoRegistry: a nil list and an empty one are the same.
func TestNoRegistry(t *testing.T) {
	for _, l := range [][]int{nil, {}} {
		m := chapter(t)
		x, e := scavenge.Run(m.a, m.r, m.s, l, 2, api.CycleMinor)
		if len(x.Registry) != 0 || x.Copied != 2 || e != api.OK {
			t.Errorf("rule 2: %v, error %d", x, e)
		}
	}
}

// TestWordsByAge: of the copies, in the new from space alone.
func TestWordsByAge(t *testing.T) {
	m := made(t, sized(400, 400, 1000))
	answer := api.Minor{}
	for age := range 16 {
		for n := range 1 + age%3 {
			m.registry = append(m.registry, m.put(t, api.SpaceEden, api.Head{Serial: 1, Kind: api.Final, Raws: age + n, Age: age}))
			if age+1 > 14 {
				answer.Promoted++
				continue
			}
			answer.Words[age+1] += 2 + age + n
			answer.Copied++
		}
	}
	x := m.run(t, 14, api.CycleMinor)
	x.Registry = nil
	want(t, "P9.6: the answer", x, answer)
}
