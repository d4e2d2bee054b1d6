package policy_test

import (
	"testing"

	"midden/api"
	"midden/policy"
)

func TestForced(t *testing.T) {
	sure, short, over := view(0, 50, 40, 50), view(0, 51, 40, 50), view(0, 50, 41, 50)
	for _, x := range []struct{ kind, step, cycle int }{{api.TurnMinor, api.StepMinor, api.CycleMinor}, {api.TurnAll, api.StepAll, api.CycleAll}} {
		for _, p := range []struct {
			what   string
			steps  []told
			cycles []int
		}{
			{"guaranteed", []told{{sure, x.step}, {sure, api.StepEnd}}, []int{x.cycle}},
			{"guaranteed, and so behind it", []told{{sure, x.step}, {short, api.StepEnd}}, []int{x.cycle}},
			{"above the limit behind it", []told{{sure, x.step}, {over, api.StepMajor}, {over, api.StepEnd}}, []int{x.cycle, api.CycleMajor}},
			{"above the limit ahead of it alone", []told{{over, x.step}, {sure, api.StepEnd}}, []int{x.cycle}},
			{"not guaranteed", []told{{short, api.StepMajor}, {sure, x.step}, {over, api.StepEnd}}, []int{api.CycleMajor, x.cycle}},
			{"not guaranteed behind a major one either", []told{{short, api.StepMajor}, {short, api.StepEnd}}, []int{api.CycleMajor}},
			{"and above the limit", []told{{short, api.StepMajor}, {view(0, 60, 90, 10), api.StepEnd}}, []int{api.CycleMajor}},
		} {
			turn := begun(t, small(), 20, x.kind, 0)
			goes(t, "P12.7: "+p.what, turn, p.steps...)
			goes(t, "P12.8: behind the end: "+p.what, turn, told{over, api.StepEnd}, told{sure, api.StepEnd})
			ran(t, "P12.9: "+p.what, turn, p.cycles...)
		}
	}
}

func TestForcedMajor(t *testing.T) {
	for _, v := range []api.View{{}, view(64, 0, 0, 100), view(0, 90, 90, 10), view(least, least, least, least), view(greatest, greatest, greatest, greatest)} {
		turn := begun(t, small(), 20, api.TurnMajor, 0)
		goes(t, "P12.7", turn, told{v, api.StepMajor}, told{view(0, 90, 90, 10), api.StepEnd}, told{v, api.StepEnd})
		ran(t, "P12.9", turn, api.CycleMajor)
	}
}

func TestPlain(t *testing.T) {
	for _, x := range []struct{ tenured, step int }{
		{0, api.StepEnd}, {39, api.StepEnd}, {40, api.StepEnd}, {41, api.StepMajor}, {greatest, api.StepMajor}, {-1, api.StepEnd}, {least, api.StepEnd},
	} {
		for _, n := range odd {
			turn := begun(t, small(), 20, api.TurnPlain, 10)
			goes(t, "P12.7, P12.8", turn, told{view(n, n, x.tenured, n), x.step}, told{view(n, n, 41, n), api.StepEnd}, told{view(n, n, 41, n), api.StepEnd})
		}
	}
}

// TestLimitStays: a major cycle doesn't change the turn's limit, nor does what the views tell.
func TestLimitStays(t *testing.T) {
	turn := begun(t, small(), 20, api.TurnAlloc, 10)
	goes(t, "P12.2", turn, told{view(5, 5, 99, 99), api.StepMinor}, told{view(10, 0, 99, 99), api.StepEden}, told{view(0, 0, 40, 60), api.StepEnd})
	turn = begun(t, small(), 20, api.TurnAlloc, 10)
	goes(t, "P12.2", turn, told{view(5, 5, 0, 99), api.StepMinor}, told{view(10, 0, 0, 99), api.StepEden}, told{view(0, 0, 41, 60), api.StepMajor})
}

// TestBelowNullCountsAsNull: P12.3, for each number where it could be seen.
func TestBelowNullCountsAsNull(t *testing.T) {
	for _, n := range []int{-1, -2, -65536, least + 1, least} {
		goes(t, "P12.3: Young and TenuredRoom", begun(t, small(), 0, api.TurnMinor, 0), told{view(0, 0, 0, n), api.StepMinor})
		goes(t, "P12.3: Young and TenuredRoom", begun(t, small(), 0, api.TurnMinor, 0), told{view(0, n, 0, least), api.StepMinor})
		goes(t, "P12.3: Young and TenuredRoom", begun(t, small(), 0, api.TurnMinor, 0), told{view(0, 1, 0, n), api.StepMajor})
		goes(t, "P12.3: EdenRoom", begun(t, small(), 0, api.TurnAlloc, 2), told{view(n, 0, 0, 0), api.StepMinor})
		goes(t, "P12.3: Tenured", begun(t, small(), 20, api.TurnAlloc, 41), told{view(0, 0, n, 100), api.StepMajor})
		c := small()
		c.Floor = 0
		goes(t, "P12.3: Tenured", begun(t, c, 0, api.TurnPlain, 0), told{view(0, 0, n, 0), api.StepEnd})
		turn := begun(t, small(), 20, api.TurnMajor, 0)
		turn.Next(api.View{})
		want(t, "P12.9: Base", turn.Base(view(1, 1, n, 1)), 0)
	}
}

func TestBase(t *testing.T) {
	for _, base := range []int{0, 20, 65536, 65537, greatest} {
		for _, kind := range kinds {
			x := begun(t, small(), base, kind, 10)
			want(t, "P12.9: Base ahead of all steps", x.Base(view(1, 2, 77, 4)), base)
		}
		x := begun(t, small(), base, api.TurnAlloc, 10)
		goes(t, "P12.5", x, told{view(0, 0, 0, 0), api.StepMinor})
		want(t, "P12.9: Base behind a minor one", x.Base(view(1, 2, 77, 4)), base)
		goes(t, "P12.5", x, told{view(0, 0, 0, 0), api.StepMajor})
		want(t, "P12.9: Base behind a major one", x.Base(view(1, 2, 77, 4)), 77)
		want(t, "P12.9: Base behind a major one", x.Base(view(1, 2, greatest, 4)), greatest)
		want(t, "P12.9: Base behind a major one", x.Base(view(1, 2, 0, 4)), 0)
		x = begun(t, small(), base, api.TurnAll, 0)
		goes(t, "P12.7", x, told{view(0, 0, 0, 0), api.StepAll}, told{view(0, 0, 0, 0), api.StepEnd})
		want(t, "P12.9: Base behind a promote-all one", x.Base(view(1, 2, 77, 4)), base)
	}
}

// TestAskingChangesNothing: Base and Cycles may be asked at any moment, as often as one likes.
func TestAskingChangesNothing(t *testing.T) {
	x := begun(t, small(), 20, api.TurnAlloc, 10)
	for i, s := range []told{{view(5, 5, 5, 5), api.StepMinor}, {view(5, 5, 5, 5), api.StepMajor}, {view(5, 5, 5, 5), api.StepAll}, {view(5, 5, 5, 5), api.StepFail}, {view(5, 5, 50, 5), api.StepEnd}} {
		for range 3 {
			x.Base(view(greatest, least, 99, 0))
			if got := len(x.Cycles()); got != min(i, 3) {
				t.Errorf("P12.9: %d cycles ahead of step %d", got, i+1)
			}
		}
		goes(t, "P12.9: Base and Cycles change nothing", x, s)
	}
}

// TestCyclesIsNewMemory: what is written into an answer, or behind it, is seen nowhere else.
func TestCyclesIsNewMemory(t *testing.T) {
	x := begun(t, small(), 20, api.TurnAlloc, 10)
	tight := view(5, 5, 5, 5)
	var lists [][]int
	for range 5 {
		l := x.Cycles()
		for i := range l {
			l[i] = -9
		}
		_ = append(l, -8, -8, -8, -8)
		lists = append(lists, l)
		x.Next(tight)
	}
	ran(t, "rule 3", x, api.CycleMinor, api.CycleMajor, api.CycleAll)
	for _, l := range lists {
		for _, n := range l {
			want(t, "rule 3: an earlier answer", n, -9)
		}
	}
	first, second := x.Cycles(), x.Cycles()
	first[0] = 77
	want(t, "rule 3: another answer", second[0], api.CycleMinor)
}

// TestTwoTurns: they don't touch one another, a copy no more than others.
func TestTwoTurns(t *testing.T) {
	tight, room := view(5, 5, 5, 5), view(10, 5, 5, 5)
	x, y := begun(t, small(), 20, api.TurnAlloc, 10), begun(t, small(), 20, api.TurnAlloc, 10)
	goes(t, "two turns", x, told{tight, api.StepMinor}, told{tight, api.StepMajor})
	goes(t, "two turns", y, told{tight, api.StepMinor})
	ran(t, "two turns", y, api.CycleMinor)
	z := *x
	goes(t, "two turns", &z, told{tight, api.StepAll}, told{tight, api.StepFail}, told{tight, api.StepEnd})
	goes(t, "two turns", x, told{room, api.StepEden}, told{room, api.StepEnd})
	ran(t, "two turns", x, api.CycleMinor, api.CycleMajor)
	ran(t, "two turns", &z, api.CycleMinor, api.CycleMajor, api.CycleAll)
	goes(t, "two turns", y, told{room, api.StepEden}, told{view(0, 0, 41, 0), api.StepMajor})
	ran(t, "two turns", y, api.CycleMinor, api.CycleMajor)
	one, other := *y, *y
	one.Next(tight)
	goes(t, "two turns", &other, told{tight, api.StepEnd})
}

// TestCopiesInTheMiddle: what two copies tell from then on is each one's own.
func TestCopiesInTheMiddle(t *testing.T) {
	tight, over := view(5, 5, 5, 5), view(10, 5, 50, 5)
	for n := range 3 {
		x := begun(t, small(), 20, api.TurnAlloc, 10)
		for range n {
			x.Next(tight)
		}
		y := *x
		x.Next(tight)
		y.Next(over)
		y.Next(over)
		all := []int{api.CycleMinor, api.CycleMajor, api.CycleAll}
		ran(t, "two turns", x, all[:n+1]...)
		if n < 2 {
			ran(t, "two turns", &y, append(all[:n:n], api.CycleMajor)...)
		} else {
			ran(t, "two turns", &y, all[:2]...)
		}
	}
}

// TestTurnThatNobodyBegan ends: it is over.
func TestTurnThatNobodyBegan(t *testing.T) {
	var x policy.Turn
	goes(t, "rule 1", &x, told{view(0, 0, 99, 0), api.StepEnd}, told{view(0, 0, 99, 0), api.StepEnd})
	want(t, "rule 1: Base", x.Base(view(0, 0, 99, 0)), 0)
	ran(t, "rule 1", &x)
}
