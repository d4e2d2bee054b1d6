package tuner_test

import (
	"testing"

	"midden/api"
	"midden/tuner"
)

func TestFirstExample(t *testing.T) {
	for _, x := range []struct {
		c    api.Config
		ops  []api.Op
		cost api.Cost
	}{
		{small(), first(), api.Cost{Ops: 7, Made: 6, Minors: 1, Freed: 33, Worst: 33, Total: 33}},
		{with("Eden", 80), first(), api.Cost{Ops: 7, Made: 6}},
		{small(), nil, api.Cost{}},
	} {
		cost, e := tuner.Cost(x.c, x.ops)
		want(t, "P22.1: the error", e, api.OK)
		want(t, "P22.1: the cost", cost, x.cost)
	}
}

func TestSecondExample(t *testing.T) {
	want(t, "P22.5", tuner.Grid(small()), []api.Config{
		with("Eden", 80), with("Survivor", 80), with("Large", 48), with("Large", 80), with("Num", 1), with("Num", 3),
		with("Target", 40), with("Target", 60), with("MaxAge", 1), with("MaxAge", 3),
	})
}

func TestThirdExample(t *testing.T) {
	list := []api.Config{small(), with("Eden", 63), with("Eden", 80)}
	for workers := 1; workers <= mostWorkers; workers++ {
		want(t, "P22.4: of three", best(list, first(), api.Goal{}, workers, nil), answer{2, api.Cost{Ops: 7, Made: 6}, api.OK})
		want(t, "P22.4: of one that may not be", best(list[1:2], first(), api.Goal{}, workers, nil), answer{err: api.ErrTunerNone})
		want(t, "P22.4: of none", best(nil, first(), api.Goal{}, workers, nil), answer{err: api.ErrTunerNone})
	}
}

func TestFourthExample(t *testing.T) {
	for workers := 1; workers <= mostWorkers; workers++ {
		climbs(t, "5 steps", small(), first(), api.Goal{}, 5, workers, []api.Config{small(), with("Eden", 80)})
		climbs(t, "0 steps", small(), first(), api.Goal{}, 0, workers, []api.Config{small()})
		if row, e := tuner.Climb(small(), first(), api.Goal{}, 33, workers, nil); row != nil || e != api.ErrTunerMany {
			t.Errorf("P22.6: 33 steps: %+v, error %d", row, e)
		}
	}
}

func TestFifthExample(t *testing.T) {
	far, close := api.Cost{Worst: 20, Total: 900}, api.Cost{Worst: 33, Total: 33}
	for _, x := range []struct {
		goal int
		far  bool
	}{{20, true}, {0, false}} {
		goal := api.Goal{Worst: x.goal}
		want(t, "P22.2: the far one", tuner.Better(goal, far, close), x.far)
		want(t, "P22.2: the close one", tuner.Better(goal, close, far), !x.far)
	}
}
