package tuner_test

import (
	"fmt"
	"testing"

	"midden/api"
	"midden/tuner"
)

// refusedClimb holds Climb to an error, and no row.
func refusedClimb(t *testing.T, what string, c api.Config, ops []api.Op, steps, workers int, k *tuner.Cancel, why api.Errno) {
	t.Helper()
	if row, e := tuner.Climb(c, ops, api.Goal{}, steps, workers, k); row != nil || e != why {
		t.Errorf("P22.6: %s: %+v, error %d, want %d", what, row, e, why)
	}
}

// steep is a configuration from which Climb goes up by Num alone, one a step, and operations: all objects are tenured, and the limit is what calls for cycles.
func steep() (api.Config, []api.Op) {
	c := with("Tenured", 1000)
	c.Large, c.Floor, c.Num = 2, 0, 1
	return c, append([]api.Op{push(2), alloc(0, 3)}, times(2600, alloc(1, 3))...)
}

// TestClimbEndsBehindItsSteps: 0 and 32 steps, and some between.
func TestClimbEndsBehindItsSteps(t *testing.T) {
	c, ops := steep()
	var row []api.Config
	for i := range mostSteps + 1 {
		row = append(row, changed(c, "Num", 1+i))
	}
	for _, x := range []struct{ steps, workers int }{{0, 1}, {0, 8}, {1, 1}, {1, 8}, {2, 3}, {5, 8}, {mostSteps, 8}} {
		climbs(t, fmt.Sprint("steps: ", x.steps), c, ops, api.Goal{}, x.steps, x.workers, row[:x.steps+1])
	}
}

// TestClimbEndsAtOnce: where nothing costs anything no neighbour is better.
func TestClimbEndsAtOnce(t *testing.T) {
	for _, steps := range []int{0, 1, 2, mostSteps} {
		for workers := 1; workers <= mostWorkers; workers++ {
			for _, ops := range [][]api.Op{nil, {}, nothings(20), {push(1), alloc(0, 11)}} {
				climbs(t, "nothing to better", small(), ops, api.Goal{}, steps, workers, []api.Config{small()})
			}
			climbs(t, "a forced cycle", small(), []api.Op{push(1), alloc(0, 11), major}, api.Goal{}, steps, workers, []api.Config{small()})
		}
	}
}

// TestClimbEndsWhereNoneIsBetter: ahead of its last step.
func TestClimbEndsWhereNoneIsBetter(t *testing.T) {
	for _, steps := range []int{1, 2, 3, mostSteps} {
		for workers := 1; workers <= mostWorkers; workers++ {
			climbs(t, "one step", small(), first(), api.Goal{}, steps, workers, []api.Config{small(), with("Eden", 80)})
		}
	}
	ops := append([]api.Op{push(1)}, times(40, alloc(0, 20))...)
	c := with("Tenured", 1000)
	row := rowOf(t, c, ops, api.Goal{}, mostSteps)
	if len(row) < 4 || len(row) > mostSteps {
		t.Errorf("P22.6: a row of %d", len(row))
	}
	for steps := range len(row) + 3 {
		climbs(t, "several steps", c, ops, api.Goal{}, steps, 8, row[:min(steps+1, len(row))])
	}
}

// TestClimbFromTheBounds: from configurations some of whose neighbours may not be.
func TestClimbFromTheBounds(t *testing.T) {
	d := dice(77)
	ops := d.script(1, 120)
	for _, s := range settings {
		for _, n := range []int{s.first, s.last} {
			c := with(s.name, n)
			climbs(t, fmt.Sprint(s.name, n), c, ops, api.Goal{}, 2, 8, rowOf(t, c, ops, api.Goal{}, 2))
		}
	}
}

// TestClimbByGoal: a goal that the first one misses leads another way than none.
func TestClimbByGoal(t *testing.T) {
	apart := 0
	for seed := range 25 {
		d := dice(9000 + seed)
		c := d.config()
		ops := d.script(c.Threads, 60)
		free := rowOf(t, c, ops, api.Goal{}, 2)
		climbs(t, "a goal below 0", c, ops, api.Goal{Worst: -1}, 2, 8, free)
		for _, below := range []int{1, 20} {
			goal := api.Goal{Worst: costs(t, c, ops).Worst - below}
			row := rowOf(t, c, ops, goal, 2)
			climbs(t, fmt.Sprint("goal ", goal.Worst), c, ops, goal, 2, 1+d.below(8), row)
			if fmt.Sprint(row) != fmt.Sprint(free) {
				apart++
			}
		}
	}
	if apart < 5 {
		t.Errorf("the goal led another way only %d times: that says little", apart)
	}
}

// TestClimbAtBounds: steps, operations, workers, at their bounds and one past them.
func TestClimbAtBounds(t *testing.T) {
	for _, steps := range append([]int{33, 34, 64, 1000}, odd...) {
		for _, workers := range []int{1, 8} {
			refusedClimb(t, fmt.Sprint("steps: ", steps), small(), first(), steps, workers, nil, api.ErrTunerMany)
			refusedClimb(t, fmt.Sprint("steps, no operations: ", steps), small(), nil, steps, workers, tuner.NewCancel(), api.ErrTunerMany)
		}
	}
	climbs(t, "4000 operations", small(), nothings(mostOps), api.Goal{}, 2, 8, []api.Config{small()})
	climbs(t, "4000 operations, no steps", small(), nothings(mostOps), api.Goal{}, 0, 1, []api.Config{small()})
	for _, n := range []int{mostOps + 1, mostOps + 2, 1 << 16} {
		for _, steps := range []int{0, 1, mostSteps} {
			refusedClimb(t, fmt.Sprint("operations: ", n), small(), nothings(n), steps, 8, nil, api.ErrTunerMany)
		}
	}
	for _, workers := range append([]int{0, 9, 10, 64, 257}, odd...) {
		for _, steps := range []int{0, 1, mostSteps} {
			refusedClimb(t, fmt.Sprint("workers: ", workers), small(), first(), steps, workers, nil, api.ErrTunerWorkers)
		}
	}
	for _, c := range wrong() {
		for _, steps := range []int{0, 1} {
			refusedClimb(t, fmt.Sprintf("%+v", c), c, first(), steps, 2, nil, api.ErrTunerNone)
		}
	}
}

// TestClimbRefusals: whichever errors apply, the first one is answered, and no row.
func TestClimbRefusals(t *testing.T) {
	for which := 1; which < 16; which++ {
		c, k, workers := wrongly(which)
		for _, n := range workers {
			for _, steps := range []int{0, 3} {
				if which&2 == 0 {
					refusedClimb(t, fmt.Sprintf("faults %04b", which), c, first(), steps, n, k, firstFault(which))
					continue
				}
				refusedClimb(t, fmt.Sprintf("faults %04b, operations", which), c, nothings(mostOps+1), steps, n, k, firstFault(which))
				refusedClimb(t, fmt.Sprintf("faults %04b, steps", which), c, first(), 33+steps, n, k, firstFault(which))
				refusedClimb(t, fmt.Sprintf("faults %04b, steps below 0", which), c, first(), -1-steps, n, k, firstFault(which))
			}
		}
	}
}

// TestClimbOfMany: drawn climbs, by different numbers of workers, held to P22.6's words and to P22.9.
func TestClimbOfMany(t *testing.T) {
	met := map[string]int{}
	for seed := range 60 {
		d := dice(3000 + seed)
		c := d.config()
		ops := d.script(c.Threads, 20+d.below(100))
		goal, steps := d.goal(), d.below(6)
		row := rowOf(t, c, ops, goal, steps)
		for _, workers := range []int{1, 2, 8} {
			climbs(t, fmt.Sprintf("by %d from %+v", workers, c), c, ops, goal, steps, workers, row)
		}
		got, e := tuner.Climb(c, ops, goal, steps, 1+d.below(8), tuner.NewCancel())
		want(t, "P22.6: with a Cancel", []any{got, e}, []any{row, api.OK})
		rises(t, got, ops, goal, steps)
		switch {
		case steps == 0:
			met["no steps"]++
		case len(got) == 1:
			met["at once"]++
		case len(got) == steps+1:
			met["behind its steps"]++
		default:
			met["none is better"]++
		}
		if t.Failed() {
			t.Fatalf("seed %d", seed)
		}
	}
	for _, what := range []string{"no steps", "at once", "behind its steps", "none is better"} {
		if met[what] < 5 {
			t.Errorf("%s only %d times: that says little (%v)", what, met[what], met)
		}
	}
}

// rises holds a row to P22.9, by Cost, Better and Grid alone.
func rises(t *testing.T, row []api.Config, ops []api.Op, goal api.Goal, steps int) {
	t.Helper()
	seen := map[api.Config]bool{}
	var last api.Cost
	for i, c := range row {
		x, e := tuner.Cost(c, ops)
		if e != api.OK || seen[c] || i > 0 && !tuner.Better(goal, x, last) {
			t.Errorf("P22.9: number %d of %+v", i, row)
		}
		seen[c], last = true, x
	}
	if len(row) > steps+1 {
		t.Errorf("P22.6: %d configurations behind %d steps", len(row), steps)
	}
	if len(row) == steps+1 {
		return
	}
	for _, c := range tuner.Grid(row[len(row)-1]) {
		if x, _ := tuner.Cost(c, ops); tuner.Better(goal, x, last) {
			t.Errorf("P22.9: %+v is better than the end of %+v", c, row)
		}
	}
}
