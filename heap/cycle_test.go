package heap_test

import (
	"fmt"
	"testing"

	"midden/api"
	"midden/heap"
)

func TestCycleRefuses(t *testing.T) {
	h := first(t)
	was := state(h)
	for _, n := range append([]int{0, 4, 5, -1}, odd...) {
		if r, e := h.Cycle(n); e != api.ErrPolicyKind || len(r.Cycles) != 0 || r.Serial != 0 {
			t.Errorf("P14.7: Cycle(%d): %v, error %d", n, r, e)
		}
	}
	want(t, "P14.7: nothing changes", state(h), was)
}

// TestForced: each cycle as it is asked for, where a minor one is guaranteed.
func TestForced(t *testing.T) {
	for _, x := range []struct {
		o           api.Op
		told, there string
		threshold   int
	}{
		{minor(), "after [1]", "[2:1.2 2:6.1]", 2},
		{promote(), "after [2]", "[4:1.2 4:6.1]", 2},
		{major(), "after [3]", "[1:6.0 3:1.1]", 2},
	} {
		h := first(t)
		does(t, "P14.7", h, x.o, x.told)
		want(t, "P14.10", lies(h), x.there)
		want(t, "P14.10: the threshold", h.Threshold(), x.threshold)
		want(t, "P14.13", h.Check(), true)
	}
}

// crowded makes a heap with 60 words of tenured objects, of which some are dead, and 55 young ones: a minor cycle isn't guaranteed.
func crowded(t *testing.T, dead int) *heap.Heap {
	t.Helper()
	c := small()
	c.Large, c.Floor = 20, 100
	h := begun(t, c, 8)
	for slot := range 3 {
		does(t, "P14.6", h, alloc(0, slot, api.Plain, 0, 18, 0), fmt.Sprint("serial ", slot+1))
	}
	for slot := range 5 {
		does(t, "P14.6", h, alloc(0, 3+slot, api.Plain, 0, 9, 0), fmt.Sprint("serial ", slot+4))
	}
	for slot := range dead {
		does(t, "P14.3", h, copied(0, slot, -1), "")
	}
	return h
}

// TestForcedNotGuaranteed: a major cycle first, and then that, if it is guaranteed by then.
func TestForcedNotGuaranteed(t *testing.T) {
	for cycle, o := range map[int]api.Op{api.CycleMinor: minor(), api.CycleAll: promote()} {
		h := crowded(t, 1)
		does(t, "P14.7", h, o, fmt.Sprint("after [3 ", cycle, "]"))
		h = crowded(t, 0)
		does(t, "P14.7: not even then", h, o, "after [3]")
		want(t, "P14.9: the base", h.Limit(), 120)
	}
}

// TestLadder: the rungs of an allocation that finds no room in eden.
func TestLadder(t *testing.T) {
	ten := alloc(0, 0, api.Plain, 0, 8, 0)
	h := crowded(t, 0)
	does(t, "P14.9: a major cycle, and it fails", h, ten, "error 142 after [3]")
	h = crowded(t, 1)
	does(t, "P14.9: a major cycle, and then one that promotes all", h, ten, "serial 9 after [3 2]")
	want(t, "P14.9: what is tenured", h.View().Tenured, 95)
	want(t, "P14.9: the base is that of the end", h.Limit(), 190)
	h = crowded(t, 0)
	does(t, "P14.3", h, copied(0, 5, -1), "")
	does(t, "P14.9: room in eden behind a major cycle", h, ten, "serial 9 after [3]")
	h = crowded(t, 1)
	does(t, "P14.7", h, major(), "after [3]")
	does(t, "P14.9: guaranteed at once", h, ten, "serial 9 after [1]")
}

// TestClosing: where a minor cycle brings the tenured space above the limit, a major one comes at the end, behind the laying.
func TestClosing(t *testing.T) {
	c := small()
	c.Floor, c.Num, c.MaxAge, c.Target = 10, 1, 1, 100
	h := begun(t, c, 4)
	does(t, "P14.6", h, alloc(0, 0, api.Plain, 0, 18, 0), "serial 1")
	does(t, "P14.7", h, minor(), "after [1]")
	does(t, "P14.6", h, alloc(0, 1, api.Plain, 0, 58, 0), "serial 2")
	does(t, "P14.3", h, copied(0, 1, -1), "")
	does(t, "P14.6: the slot holds the old one for the minor cycle, the new one for the major", h, alloc(0, 0, api.Final, 0, 8, 0), "serial 3 after [1 3]")
	want(t, "P14.10: the end's comes behind the laying", lies(h), "[1:3.0]")
	want(t, "P14.9: the base", h.Limit(), 10)
	does(t, "P14.6", h, alloc(0, 1, api.Plain, 0, 18, 0), "serial 4")
	does(t, "P14.7", h, minor(), "after [1]")
	does(t, "P14.8: a forced one ends with it, too", h, minor(), "after [1 3]")
	want(t, "P14.10", lies(h), "[4:3.2 4:4.2]")
	want(t, "P14.9: the base", h.Limit(), 30)
}

// TestPlainRunsNone: no other operation brings anything into the tenured space.
func TestPlainRunsNone(t *testing.T) {
	h := crowded(t, 0)
	for _, o := range []api.Op{copied(0, 0, 3), load(0, 1, 2, 0), store(0, 0, 0, -1), get(0, 1, 0), put(0, 1, 0, 4), same(0, 0, 1), shape(0, 1), opened(0, 1), opened(0, 2), opened(0, 3), fetch(0, 0, 1), closing(0), take(0, 0), push(0, 1), pop(0), push(0, 1)} {
		if x := ask(h, o); len(x.cycles) != 0 || x.serial != 0 {
			t.Errorf("P14.8: %+v: %v, %d", o, x.cycles, x.serial)
		}
	}
}

// TestThreshold follows the words by age at minor cycles, and stays at a major one.
func TestThreshold(t *testing.T) {
	c := small()
	c.MaxAge, c.Floor = 5, 100
	h := begun(t, c, 4)
	does(t, "P14.6", h, alloc(0, 0, api.Plain, 0, 31, 0), "serial 1")
	want(t, "P14.1", h.Threshold(), 5)
	does(t, "P14.7", h, minor(), "after [1]")
	want(t, "P14.10: 33 words of age 1, of 32", h.Threshold(), 1)
	does(t, "P14.7", h, major(), "after [3]")
	want(t, "P14.10: it stays", h.Threshold(), 1)
	does(t, "P14.7: it is promoted", h, minor(), "after [1]")
	want(t, "P14.10", lies(h), "[4:1.2]")
	want(t, "P14.10: nothing is young", h.Threshold(), 5)
	does(t, "P14.6", h, alloc(0, 1, api.Plain, 0, 15, 0), "serial 2")
	does(t, "P14.7", h, minor(), "after [1]")
	does(t, "P14.6", h, alloc(0, 2, api.Plain, 0, 14, 0), "serial 3")
	does(t, "P14.7", h, minor(), "after [1]")
	want(t, "P14.10: 16 words of age 1, 17 of age 2", h.Threshold(), 2)
	does(t, "P14.7", h, promote(), "after [2]")
	want(t, "P14.10: behind one that promotes all", h.Threshold(), 5)
}

// TestSettled: what a major cycle does to weak fields, ephemerons and finalizers; a minor one does none of it.
func TestSettled(t *testing.T) {
	c := small()
	c.Eden, c.Survivor = 128, 128
	h := begun(t, c, 6)
	for i, kind := range []int{api.Weak, api.Ephemeron, api.Ephemeron, api.Final, api.Final, api.Plain} {
		does(t, "P14.6", h, alloc(0, i, kind, 2, 0, 0), fmt.Sprint("serial ", i+1))
	}
	// The first Final one holds the second, the weak one holds that, the ephemerons have as keys the Final one and the plain one.
	for _, o := range []api.Op{store(0, 3, 0, 4), store(0, 0, 0, 4), store(0, 0, 1, 1), store(0, 1, 0, 3), store(0, 1, 1, 2), store(0, 2, 0, 5), store(0, 2, 1, 5)} {
		does(t, "P14.4", h, o, "")
	}
	for slot := 1; slot < 6; slot++ {
		does(t, "P14.3", h, copied(0, slot, -1), "")
	}
	was := h.Graph(true)
	for range 3 {
		does(t, "P14.7", h, minor(), "after [1]")
		want(t, "P14.10: at a minor cycle all fields are strong", h.Graph(true), was)
	}
	does(t, "P14.7", h, major(), "after [3]")
	// 4 is queued, and holds 5, which stays in the registry; so the weak field and the first ephemeron keep theirs; the second one's key is gone.
	g := h.Graph(true)
	want(t, "P14.10: what is left", lies(h), "[4:1.3 4:4.3 4:5.3 4:2.3 4:3.3]")
	want(t, "P14.10: the queue", serials(g, g.Queue), []int{4})
	want(t, "P14.10: the registry", serials(g, g.Registry), []int{5})
	want(t, "P14.10: it is Plain", g.Objects[3].Kind, api.Plain)
	want(t, "P14.10: fields", fmt.Sprint(g.Objects[0].Ptrs, g.Objects[1].Ptrs, g.Objects[2].Ptrs), "[5 2] [4 3] [0 0]")
	does(t, "P14.5", h, take(0, 1), "")
	does(t, "P14.4", h, store(0, 1, 0, -1), "")
	does(t, "P14.7", h, major(), "after [3]")
	g = h.Graph(true)
	want(t, "P14.10: the queue", serials(g, g.Queue), []int{5})
	want(t, "P14.10: nobody holds 4 but a slot", fmt.Sprint(g.Objects[0].Ptrs, g.Objects[1].Ptrs), "[5 2] [4 3]")
}

// TestReports: their lists are new, and nobody else's.
func TestReports(t *testing.T) {
	h := crowded(t, 1)
	r, _ := h.Cycle(api.CycleAll)
	kept := fmt.Sprint(r.Cycles)
	other, _ := h.Cycle(api.CycleMajor)
	r.Cycles[0] = 9
	r.Cycles = append(r.Cycles, 8)
	last, _ := h.Cycle(api.CycleMajor)
	want(t, "rule 3", fmt.Sprint(kept, other.Cycles, last.Cycles), "[3 2][3] [3]")
}
