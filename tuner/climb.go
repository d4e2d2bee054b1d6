package tuner

import (
	"midden/api"
	"midden/arena"
)

// Climb goes from a configuration to better and better neighbours: all of them, the first one too.
func Climb(c api.Config, ops []api.Op, goal api.Goal, steps, workers int, k *Cancel) ([]api.Config, api.Errno) {
	if e := refusal(workers, len(ops) > api.MaxOps || steps < 0 || steps > api.MaxClimb, k); e != api.OK {
		return nil, e
	}
	if !arena.Valid(c) {
		return nil, api.ErrTunerNone
	}
	row := []api.Config{c}
	if steps == 0 { // what c costs may take long to tell, and isn't asked
		return row, api.OK
	}
	cost, _ := player(ops, done(k))(c) // one that may be isn't refused
	for range steps {
		near := Grid(row[len(row)-1])
		n, x, e := Best(near, ops, goal, workers, k)
		if e == api.ErrTunerCancelled {
			return nil, e
		}
		if e != api.OK || !Better(goal, x, cost) {
			break
		}
		row, cost = append(row, near[n]), x
	}
	return row, api.OK
}
