package scavenge_test

import (
	"fmt"
	"testing"

	"midden/api"
)

// TestWhatACopyHas: all that stays, and the two things that don't.
func TestWhatACopyHas(t *testing.T) {
	for _, h := range []api.Head{
		{Serial: 7, Kind: api.Plain, Ptrs: 1, Raws: 2, Site: 9},
		{Serial: 1<<64 - 1, Kind: api.Weak, Ptrs: 2, Raws: 1, Age: 1, Site: 255, Held: true},
		{Serial: 0, Kind: api.Ephemeron, Ptrs: 3, Age: 3, Held: true},
		{Serial: api.MaxSerial, Kind: api.Final, Raws: 5, Age: 14, Site: 1},
		{Serial: 5, Kind: api.Final, Ptrs: 2, Raws: 2, Age: 15},
		{Serial: 5, Kind: api.Plain},
	} {
		for _, cycle := range []int{api.CycleMinor, api.CycleAll} {
			m := made(t, small())
			at := m.put(t, api.SpaceEden, h)
			m.put(t, api.SpaceTenured, api.Head{Serial: 1, Kind: api.Plain})
			for i := range h.Ptrs {
				m.point(t, at, i, []int{193, at, 0}[i])
			}
			for i := range h.Raws {
				m.a.SetRaw(at, i, 1<<63+uint64(i))
			}
			m.hold(t, at)
			was := m.thing(at)
			m.run(t, 4, cycle)
			got := m.thing(m.r.All()[0])
			was.At, was.Head.Held = got.At, false
			was.Head.Age = min(h.Age+1, 15)
			if h.Ptrs > 1 {
				was.Ptrs[1] = got.At
			}
			want(t, fmt.Sprintf("P9.3: the copy of %+v", h), got, was)
		}
	}
}

// TestWhereACopyGoes: by age and threshold, in both modes.
func TestWhereACopyGoes(t *testing.T) {
	for age := range 16 {
		for threshold := 1; threshold <= 15; threshold++ {
			for _, cycle := range []int{api.CycleMinor, api.CycleAll} {
				m := made(t, small())
				m.hold(t, m.put(t, api.SpaceA, api.Head{Serial: 1, Kind: api.Plain, Raws: 3, Age: age}))
				x := m.run(t, threshold, cycle)
				answer, at := api.Minor{Copied: 1}, 129
				answer.Words[min(age+1, 15)] = 5
				if cycle == api.CycleAll || age+1 > threshold {
					answer, at = api.Minor{Promoted: 1}, 193
				}
				what := fmt.Sprintf("age %d, threshold %d, cycle %d", age, threshold, cycle)
				want(t, "P9.3: "+what, m.r.All(), []int{at})
				want(t, "P9.6: "+what, x, answer)
				want(t, "P9.3: the age behind "+what, m.thing(at).Head.Age, min(age+1, 15))
			}
		}
	}
}

// TestRoom: an object that just fits stays young, one that is a word greater is promoted, a later, smaller one fits again.
func TestRoom(t *testing.T) {
	for _, c := range []struct {
		raws           []int
		young, tenured string
		overflow       int
	}{
		{[]int{40, 20}, "[[129 1] [171 2]]", "[]", 0},
		{[]int{40, 21}, "[[129 1]]", "[[193 2]]", 1},
		{[]int{40, 21, 20}, "[[129 1] [171 3]]", "[[193 2]]", 1},
		{[]int{40, 19, 0, 0}, "[[129 1] [171 2]]", "[[193 3] [195 4]]", 2},
		{[]int{40, 18, 0, 0}, "[[129 1] [171 2] [191 3]]", "[[193 4]]", 1},
	} {
		m := made(t, sized(100, 64, 200))
		for i, raws := range c.raws {
			m.r.Set(0, i, m.put(t, api.SpaceEden, api.Head{Serial: uint64(i + 1), Kind: api.Plain, Raws: raws}))
		}
		x := m.run(t, 3, api.CycleMinor)
		shift := func(space, to int) string {
			first, _ := m.a.Bounds(space)
			l := [][2]int{}
			for _, w := range m.where(space) {
				l = append(l, [2]int{w[0] - first + to, w[1]})
			}
			return fmt.Sprint(l)
		}
		what := fmt.Sprint("raw fields ", c.raws)
		want(t, "P9.3: the to space, "+what, shift(api.SpaceB, 129), c.young)
		want(t, "P9.3: the tenured space, "+what, shift(api.SpaceTenured, 193), c.tenured)
		want(t, "P9.6: Overflow, "+what, x.Overflow, c.overflow)
		want(t, "P9.6: Promoted, "+what, x.Promoted, c.overflow)
		want(t, "P9.6: Copied, "+what, x.Copied, len(c.raws)-c.overflow)
	}
}

// TestOverflowIsWantOfRoomAlone: what is old, or promoted with all, and wouldn't fit either, doesn't count.
func TestOverflowIsWantOfRoomAlone(t *testing.T) {
	for _, c := range []struct {
		age, cycle, overflow int
	}{{2, api.CycleMinor, 1}, {3, api.CycleMinor, 0}, {15, api.CycleMinor, 0}, {0, api.CycleAll, 0}, {0, api.CycleMinor, 1}} {
		m := made(t, sized(200, 64, 200))
		m.hold(t, m.put(t, api.SpaceEden, api.Head{Serial: 1, Kind: api.Plain, Raws: 63, Age: c.age}))
		x := m.run(t, 3, c.cycle)
		want(t, fmt.Sprintf("P9.6: age %d, cycle %d", c.age, c.cycle), x, api.Minor{Promoted: 1, Overflow: c.overflow})
	}
}

// TestOneCopy: however many pointers lead to an object, it is copied once, and all of them lead to the copy.
func TestOneCopy(t *testing.T) {
	m := made(t, small())
	x := m.lay(t, api.SpaceEden, api.Head{Serial: 1, Kind: api.Weak}, 1, 1)
	y := m.lay(t, api.SpaceA, api.Head{Serial: 2, Kind: api.Ephemeron}, x, 65, x)
	z := m.plain(t, api.SpaceTenured, 3, 0, 0)
	m.store(t, z, 0, x)
	m.store(t, z, 1, y)
	m.hold(t, x, 0, x, y)
	m.r.Open(x)
	m.r.Open(y)
	m.r.Enqueue(x)
	m.r.Enqueue(x)
	m.registry = []int{y, y, x, z}
	a := m.run(t, 5, api.CycleMinor)
	want(t, "P9.3: B", m.where(api.SpaceB), "[[129 1] [133 2]]")
	want(t, "P9.4: the roots", m.r.All(), []int{129, 129, 133, 129, 133, 129, 129})
	want(t, "P9.4: the fields", [][]int{m.thing(129).Ptrs, m.thing(133).Ptrs, m.thing(z).Ptrs}, "[[129 129] [129 133 129] [129 133]]")
	want(t, "P9.6: the registry", a.Registry, []int{133, 133, 129, z})
	want(t, "P9.6: Copied", a.Copied, 2)
}

// TestRawFieldsAreNoPointers: a raw field that looks like an address of a young object keeps nothing, and stays what it is.
func TestRawFieldsAreNoPointers(t *testing.T) {
	m := made(t, small())
	m.plain(t, api.SpaceEden, 1)
	at := m.put(t, api.SpaceEden, api.Head{Serial: 1, Kind: api.Final, Raws: 2})
	m.a.SetRaw(at, 0, 1)
	m.a.SetRaw(at, 1, uint64(at))
	m.hold(t, at)
	m.run(t, 3, api.CycleMinor)
	want(t, "P9.7: B", m.things(api.SpaceB), []thing{{129, api.Head{Serial: 1, Kind: api.Final, Raws: 2, Age: 1}, []int{}, []uint64{1, uint64(at)}}})
}
