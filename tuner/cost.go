package tuner

import (
	"cmp"

	"midden/api"
	"midden/halt"
	"midden/ledger"
)

// Cost tells what a script comes to under a configuration.
func Cost(c api.Config, ops []api.Op) (api.Cost, api.Errno) {
	if len(ops) > api.MaxOps {
		return api.Cost{}, api.ErrTunerMany
	}
	return player(ops, nil)(c)
}

// player tells what plays the operations under a configuration, and tells their cost. It breaks off where end (nil: none) is closed, since a script may take long: what it tells counts for nothing then.
func player(ops []api.Op, end <-chan struct{}) func(c api.Config) (api.Cost, api.Errno) {
	return func(c api.Config) (api.Cost, api.Errno) {
		l, e := ledger.New(c)
		if e != api.OK {
			return api.Cost{}, e
		}
		for _, o := range ops {
			if halt.Closed(end) {
				break
			}
			l.Do(o)
		}
		return l.Sum(), api.OK
	}
}

// Better tells whether one cost is better than another.
func Better(goal api.Goal, a, b api.Cost) bool {
	if misses(goal, a) != misses(goal, b) {
		return misses(goal, b)
	}
	return cmp.Or(cmp.Compare(a.Failed, b.Failed), cmp.Compare(a.Total, b.Total), cmp.Compare(a.Worst, b.Worst)) < 0
}

// misses tells whether a cost has a pause above the goal.
func misses(goal api.Goal, x api.Cost) bool { return goal.Worst > 0 && x.Worst > goal.Worst }
