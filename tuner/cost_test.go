package tuner_test

import (
	"fmt"
	"testing"

	"midden/api"
	"midden/ledger"
	"midden/tuner"
)

// TestCost: what Sum answers, of runs of the dice.
func TestCost(t *testing.T) {
	met := map[string]int{}
	for seed := range 300 {
		d := dice(1000 + seed)
		c := d.config()
		ops := d.script(c.Threads, d.below(200))
		for range 2 {
			x, e := tuner.Cost(c, ops)
			want(t, "P22.1: the error", e, api.OK)
			want(t, fmt.Sprintf("P22.1: %+v", c), x, costs(t, c, ops))
			for what, is := range map[string]bool{"minors": x.Minors > 0, "alls": x.Alls > 0, "majors": x.Majors > 0, "failed": x.Failed > 0, "promoted": x.Promoted > 0, "none": x.Total == 0} {
				if is {
					met[what]++
				}
			}
		}
	}
	for _, what := range []string{"minors", "alls", "majors", "failed", "promoted", "none"} {
		if met[what] < 10 {
			t.Errorf("%s only %d times: that says little (%v)", what, met[what], met)
		}
	}
}

// TestCostInOrder: the operations are done in their order, whatever they are replied.
func TestCostInOrder(t *testing.T) {
	for _, x := range []struct {
		ops  []api.Op
		cost api.Cost
	}{
		{[]api.Op{alloc(0, 11), push(1), alloc(0, 11)}, api.Cost{Ops: 3, Made: 1}},
		{[]api.Op{push(1), alloc(0, 11), alloc(0, 11)}, api.Cost{Ops: 3, Made: 2}},
		{[]api.Op{push(9), op(api.OpNone), op(99), op(least), op(api.OpPop)}, api.Cost{Ops: 5}},
		{[]api.Op{push(1), alloc(0, 11), minor, op(api.OpClear, 0), major}, api.Cost{Ops: 5, Made: 1, Minors: 1, Majors: 1, Freed: 11, Worst: 11, Total: 11}},
		{[]api.Op{push(1), op(api.OpClear, 0), major, alloc(0, 11), minor}, api.Cost{Ops: 5, Made: 1, Minors: 1, Majors: 1, Worst: 11, Total: 11}},
		{[]api.Op{push(1), op(api.OpAlloc, 0, api.Plain, 0, 65535), promote}, api.Cost{Ops: 3, Alls: 1, Majors: 1, Failed: 1}},
	} {
		cost, e := tuner.Cost(small(), x.ops)
		want(t, "P22.1: the error", e, api.OK)
		want(t, fmt.Sprintf("P22.1: of %+v", x.ops), cost, x.cost)
	}
}

// TestCostAtBounds: 4000 operations, and one more; none, and an empty list.
func TestCostAtBounds(t *testing.T) {
	for _, n := range []int{0, 1, mostOps - 1, mostOps} {
		x, e := tuner.Cost(small(), nothings(n))
		want(t, fmt.Sprint("P22.1: operations: ", n), []any{x, e}, []any{api.Cost{Ops: n}, api.OK})
	}
	for _, n := range []int{mostOps + 1, mostOps + 2, 1 << 16, 1<<16 + 1} {
		for _, c := range []api.Config{small(), with("Eden", 63), {}} {
			x, e := tuner.Cost(c, nothings(n))
			want(t, fmt.Sprint("P22.1: operations: ", n), []any{x, e}, []any{api.Cost{}, api.ErrTunerMany})
		}
	}
	ops := append(first(), times(mostOps-7, alloc(1, 11))...)
	x, e := tuner.Cost(small(), ops)
	want(t, "P22.1: 4000 that do something", []any{x, e}, []any{costs(t, small(), ops), api.OK})
}

// TestCostOfSettings: each number of a configuration at its bounds, and beyond.
func TestCostOfSettings(t *testing.T) {
	d := dice(7)
	ops := d.script(1, 60)
	for _, s := range settings {
		for _, n := range []int{s.first, s.last} {
			c := with(s.name, n)
			x, e := tuner.Cost(c, ops)
			want(t, fmt.Sprint("P22.1: ", s.name, n), []any{x, e}, []any{costs(t, c, ops), api.OK})
		}
	}
	for _, c := range wrong() {
		for _, list := range [][]api.Op{nil, ops, nothings(mostOps)} {
			_, why := ledger.New(c)
			x, e := tuner.Cost(c, list)
			want(t, fmt.Sprintf("P22.1: %+v", c), []any{x, e}, []any{api.Cost{}, why})
			want(t, "P21.1: the error", e, api.ErrArenaConfig)
		}
	}
}
