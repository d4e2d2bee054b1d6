package tuner_test

import (
	"slices"
	"testing"

	"midden/api"
	"midden/tuner"
)

// TestHandedInStays: lists that are handed in stay as they are, with the room behind them, whatever is answered.
func TestHandedInStays(t *testing.T) {
	d := dice(17)
	ops := d.script(1, 100)
	roomyOps := append(slices.Clone(ops), times(5, op(77))...)
	configs := []api.Config{small(), with("Eden", 63), with("Eden", 80)}
	roomyConfigs := append(slices.Clone(configs), times(4, api.Config{Eden: 99})...)
	wasOps, wasConfigs := slices.Clone(roomyOps), slices.Clone(roomyConfigs)
	handedOps, handedConfigs := roomyOps[:len(ops)], roomyConfigs[:len(configs)]
	stays := func(what string) {
		t.Helper()
		if !slices.Equal(roomyOps, wasOps) || !slices.Equal(roomyConfigs, wasConfigs) {
			t.Errorf("rule 3: %s: what was handed in has changed", what)
		}
	}
	for workers := range 10 {
		for _, k := range []*tuner.Cancel{nil, tuner.NewCancel(), cancelled()} {
			tuner.Cost(configs[workers%3], handedOps)
			stays("Cost")
			tuner.Best(handedConfigs, handedOps, api.Goal{}, workers, k)
			stays("Best")
			tuner.Best(handedConfigs[1:2], handedOps, api.Goal{}, workers, k)
			stays("Best of none")
			tuner.Climb(configs[workers%3], handedOps, api.Goal{}, 2, workers, k)
			stays("Climb")
		}
	}
}

// TestAnswersStay: what was answered stays, whatever becomes of what was handed in, and of other answers.
func TestAnswersStay(t *testing.T) {
	ops, configs := first(), []api.Config{small(), with("Eden", 80)}
	is, row := answer{1, api.Cost{Ops: 7, Made: 6}, api.OK}, []api.Config{small(), with("Eden", 80)}
	one := best(configs, ops, api.Goal{}, 2, nil)
	oneRow, _ := tuner.Climb(small(), ops, api.Goal{}, 3, 2, nil)
	clear(ops)
	clear(configs)
	want(t, "rule 3: Best's answer", one, is)
	want(t, "rule 3: Climb's answer", oneRow, row)
	want(t, "rule 3: lists that were changed, Cost", costOf(t, small(), ops), api.Cost{Ops: 7})
	want(t, "rule 3: lists that were changed, Best", best(configs, ops, api.Goal{}, 2, nil), answer{err: api.ErrTunerNone})
	another, _ := tuner.Climb(small(), first(), api.Goal{}, 3, 2, nil)
	spoil(oneRow)
	want(t, "rule 3: another row", another, row)
	another = append(another, api.Config{Eden: 5})
	third, _ := tuner.Climb(small(), first(), api.Goal{}, 3, 2, nil)
	want(t, "rule 3: a later row", third, row)
	spoil(another)
	want(t, "rule 3: the later row", third, row)
}

func costOf(t *testing.T, c api.Config, ops []api.Op) api.Cost {
	t.Helper()
	x, e := tuner.Cost(c, ops)
	want(t, "P22.1: the error", e, api.OK)
	return x
}

// spoil writes over a list and the room behind it, and appends to it.
func spoil(l []api.Config) {
	room := l[:cap(l)]
	for i := range room {
		room[i] = api.Config{Eden: -1}
	}
	_ = append(l, room...)
}

// TestGridsStay: likewise of Grid's lists, two of one configuration and those of others.
func TestGridsStay(t *testing.T) {
	one, two, other := tuner.Grid(small()), tuner.Grid(small()), tuner.Grid(with("Eden", 100))
	spoil(one)
	want(t, "rule 3: another list", two, near(small()))
	want(t, "rule 3: that of another configuration", other, near(with("Eden", 100)))
	want(t, "rule 3: a later list", tuner.Grid(small()), near(small()))
	_ = append(two, api.Config{Eden: 1})
	want(t, "rule 3: appended to", two, near(small()))
	spoil(two)
	want(t, "rule 3: the list behind all that", tuner.Grid(small()), near(small()))
}
