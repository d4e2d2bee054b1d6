package tuner_test

import (
	"fmt"
	"slices"
	"testing"

	"midden/api"
	"midden/arena"
	"midden/tuner"
)

// tells holds Best, by any number of workers, with and without a Cancel, to its answer.
func tells(t *testing.T, what string, configs []api.Config, ops []api.Op, goal api.Goal, is answer) {
	t.Helper()
	for workers := 1; workers <= mostWorkers; workers++ {
		want(t, fmt.Sprintf("P22.4, P22.7: %s: by %d", what, workers), best(configs, ops, goal, workers, nil), is)
		want(t, fmt.Sprintf("P22.4, P22.7: %s: by %d, with a Cancel", what, workers), best(configs, ops, goal, workers, tuner.NewCancel()), is)
	}
}

// TestBestOfOneCost: of several of one cost the first one is told, wherever it stands.
func TestBestOfOneCost(t *testing.T) {
	none := api.Cost{Ops: 7, Made: 6}
	for ahead := range 6 {
		for behind := range 6 {
			bad := slices.Concat(times(ahead, small()), times(1+behind, with("Eden", 80)), times(3, small()))
			tells(t, "the same", bad, first(), api.Goal{}, answer{ahead, none, api.OK})
		}
	}
	tells(t, "different ones of one cost", []api.Config{small(), with("Eden", 100), with("Eden", 80), with("Eden", 90)}, first(), api.Goal{}, answer{1, none, api.OK})
	tells(t, "all of one cost", []api.Config{with("Eden", 200), with("Eden", 80), wide()}, first(), api.Goal{}, answer{0, none, api.OK})
	tells(t, "no operations", []api.Config{small(), with("Eden", 80)}, nil, api.Goal{}, answer{0, api.Cost{}, api.OK})
	tells(t, "no operations", []api.Config{{}, small(), with("Eden", 80)}, []api.Op{}, api.Goal{Worst: 1}, answer{1, api.Cost{}, api.OK})
}

// TestBestAmongWrongOnes: those that may not be count for the number, for nothing else.
func TestBestAmongWrongOnes(t *testing.T) {
	bad := wrong()
	minor := costs(t, small(), first())
	for i := range 20 {
		list := slices.Concat(bad[i:i+i], []api.Config{small()}, bad[40:40+i])
		tells(t, "one that may be", list, first(), api.Goal{}, answer{i, minor, api.OK})
		list = append(list, with("Eden", 80))
		tells(t, "two that may be", list, first(), api.Goal{}, answer{2*i + 1, api.Cost{Ops: 7, Made: 6}, api.OK})
	}
	for i := 0; i < len(bad); i += mostConfigs {
		tells(t, "none that may be", bad[i:min(i+mostConfigs, len(bad))], first(), api.Goal{}, answer{err: api.ErrTunerNone})
	}
	for _, ops := range [][]api.Op{nil, first(), nothings(mostOps)} {
		tells(t, "none", nil, ops, api.Goal{}, answer{err: api.ErrTunerNone})
		tells(t, "an empty list", []api.Config{}, ops, api.Goal{}, answer{err: api.ErrTunerNone})
	}
}

// TestBestByGoal: many short pauses by minor cycles, or few long ones by major cycles: which one is told hangs on the goal.
func TestBestByGoal(t *testing.T) {
	ops := slices.Concat([]api.Op{push(3), alloc(0, 40)}, times(60, alloc(1, 20)))
	short, long := with("Tenured", 1000), with("Tenured", 1000)
	long.Large, long.Floor = 20, 400
	list := []api.Config{long, short}
	a, b := costs(t, long, ops), costs(t, short, ops)
	if a.Worst <= b.Worst || a.Total >= b.Total {
		t.Fatalf("%+v and %+v don't speak against one another", a, b)
	}
	for _, goal := range []int{least, -1, 0, 1, b.Worst - 1, a.Worst, a.Worst + 1, greatest} {
		tells(t, fmt.Sprint("goal ", goal), list, ops, api.Goal{Worst: goal}, answer{0, a, api.OK})
	}
	for _, goal := range []int{b.Worst, b.Worst + 1, a.Worst - 1} {
		tells(t, fmt.Sprint("goal ", goal), list, ops, api.Goal{Worst: goal}, answer{1, b, api.OK})
	}
}

// TestBestAtBounds: 64 configurations and one more, 4000 operations and one more, 1 and 8 workers.
func TestBestAtBounds(t *testing.T) {
	list := append(times(mostConfigs-1, small()), with("Eden", 80))
	tells(t, "64, the last one", list, first(), api.Goal{}, answer{mostConfigs - 1, api.Cost{Ops: 7, Made: 6}, api.OK})
	tells(t, "64, the first one", times(mostConfigs, small()), first(), api.Goal{}, answer{0, costs(t, small(), first()), api.OK})
	tells(t, "64 that may not be", make([]api.Config, mostConfigs), nil, api.Goal{}, answer{err: api.ErrTunerNone})
	tells(t, "4000 operations", list[62:], nothings(mostOps), api.Goal{}, answer{0, api.Cost{Ops: mostOps}, api.OK})
	for _, n := range []int{mostConfigs + 1, mostConfigs + 2, 1000} {
		tells(t, "more than 64", times(n, small()), nil, api.Goal{}, answer{err: api.ErrTunerMany})
		tells(t, "more than 64 that may not be", make([]api.Config, n), nil, api.Goal{}, answer{err: api.ErrTunerMany})
	}
	for _, n := range []int{mostOps + 1, mostOps + 2, 1 << 16} {
		tells(t, "more than 4000", list, nothings(n), api.Goal{}, answer{err: api.ErrTunerMany})
		tells(t, "more than 4000, of none", nil, nothings(n), api.Goal{}, answer{err: api.ErrTunerMany})
	}
	for _, workers := range append([]int{0, 9, 10, 64, 257}, odd...) {
		for _, c := range []*tuner.Cancel{nil, tuner.NewCancel()} {
			want(t, fmt.Sprint("P22.4: workers: ", workers), best(list, first(), api.Goal{}, workers, c), answer{err: api.ErrTunerWorkers})
		}
	}
}

// faults are the errors of Best and Climb in their order.
var faults = []api.Errno{api.ErrTunerWorkers, api.ErrTunerMany, api.ErrTunerCancelled, api.ErrTunerNone}

// firstFault tells the first one of those that are asked for, by bits.
func firstFault(which int) api.Errno {
	for i, e := range faults {
		if which&(1<<i) != 0 {
			return e
		}
	}
	return api.OK
}

// wrongly tells operands for which the asked faults apply; the lists of operations and steps are too long in turns.
func wrongly(which int) (c api.Config, k *tuner.Cancel, workers []int) {
	c, k, workers = small(), tuner.NewCancel(), []int{1, 8}
	if which&1 != 0 {
		workers = []int{0, 9, -1}
	}
	if which&4 != 0 {
		k = cancelled()
	}
	if which&8 != 0 {
		c = with("Eden", 63)
	}
	return c, k, workers
}

// TestBestRefusals: whichever errors apply, the first one is answered, and nothing beside it.
func TestBestRefusals(t *testing.T) {
	for which := 1; which < 16; which++ {
		c, k, workers := wrongly(which)
		for _, n := range workers {
			is := answer{err: firstFault(which)}
			if which&2 == 0 {
				want(t, fmt.Sprintf("P22.4: faults %04b", which), best(times(3, c), first(), api.Goal{}, n, k), is)
				continue
			}
			want(t, fmt.Sprintf("P22.4: faults %04b, operations", which), best(times(3, c), nothings(mostOps+1), api.Goal{}, n, k), is)
			want(t, fmt.Sprintf("P22.4: faults %04b, configurations", which), best(times(mostConfigs+1, c), first(), api.Goal{}, n, k), is)
			want(t, fmt.Sprintf("P22.4: faults %04b, both", which), best(times(mostConfigs+1, c), nothings(mostOps+1), api.Goal{}, n, k), is)
		}
	}
	want(t, "P22.4: of none, cancelled", best(nil, nil, api.Goal{}, 1, cancelled()), answer{err: api.ErrTunerCancelled})
}

// TestBestOfMany: drawn lists, held to P22.4's words and to P22.8.
func TestBestOfMany(t *testing.T) {
	met := map[string]int{}
	for seed := range 250 {
		d := dice(2000 + seed)
		ops := d.script(1+d.below(3), d.below(150))
		list := make([]api.Config, d.below(8))
		for i := range list {
			list[i] = d.anyConfig()
			if i > 0 && d.below(3) == 0 {
				list[i] = list[d.below(i)]
				list[i].Slots = min(list[i].Slots+d.below(2), 4096)
			}
		}
		goal := d.goal()
		is := bestOf(t, list, ops, goal)
		for _, workers := range []int{1, 2, 3, 8} {
			want(t, fmt.Sprintf("P22.4: by %d of %+v", workers, list), best(list, ops, goal, workers, nil), is)
		}
		note(t, met, list, ops, goal, best(list, ops, goal, 1+d.below(8), tuner.NewCancel()))
		if t.Failed() {
			t.Fatalf("seed %d", seed)
		}
	}
	for _, what := range []string{"none", "of several", "by the goal", "by Failed", "by Total", "of one cost", "wrong ahead"} {
		if met[what] < 10 {
			t.Errorf("%s only %d times: that says little (%v)", what, met[what], met)
		}
	}
}

// note holds what Best tells to P22.8, by Cost and Better alone, and counts what decided.
func note(t *testing.T, met map[string]int, list []api.Config, ops []api.Op, goal api.Goal, is answer) {
	t.Helper()
	if is.err != api.OK {
		met["none"]++
		return
	}
	for i, c := range list {
		if !arena.Valid(c) {
			if i < is.number {
				met["wrong ahead"]++
			}
			continue
		}
		x, _ := tuner.Cost(c, ops)
		if tuner.Better(goal, x, is.cost) || i < is.number && !tuner.Better(goal, is.cost, x) {
			t.Errorf("P22.8: number %d, %+v, where %d, %+v is told", i, x, is.number, is.cost)
		}
		a, b := rank(goal, is.cost), rank(goal, x)
		switch {
		case i == is.number:
			want(t, "P22.4: its cost", is.cost, x)
		case a[0] != b[0]:
			met["by the goal"]++
		case a[1] != b[1]:
			met["by Failed"]++
		case a[2] != b[2]:
			met["by Total"]++
		case a[3] == b[3]:
			met["of one cost"]++
		}
	}
	met["of several"]++
}
