// Package tuner: the configuration that costs least: see doc/21-tuner.md.
package tuner

import (
	"sync"

	"midden/api"
	"midden/arena"
)

// Best tells the first of the best configurations (workers play them at once), and its cost.
func Best(configs []api.Config, ops []api.Op, goal api.Goal, workers int, c *Cancel) (int, api.Cost, api.Errno) {
	if e := refusal(workers, len(configs) > api.MaxConfigs || len(ops) > api.MaxOps, c); e != api.OK {
		return 0, api.Cost{}, e
	}
	runs := runsOf(configs)
	if len(runs) == 0 {
		return 0, api.Cost{}, api.ErrTunerNone
	}
	playAll(runs, ops, workers, done(c))
	if c != nil && c.Cancelled() {
		return 0, api.Cost{}, api.ErrTunerCancelled
	}
	first := firstBest(runs, goal)
	return first.number, first.cost, api.OK
}

// refusal tells the first of the errors that Best and Climb look for ahead of all configurations.
func refusal(workers int, many bool, c *Cancel) api.Errno {
	switch {
	case workers < 1 || workers > api.MaxWorkers:
		return api.ErrTunerWorkers
	case many:
		return api.ErrTunerMany
	case c != nil && c.Cancelled():
		return api.ErrTunerCancelled
	}
	return api.OK
}

// run: a configuration that may be, its number in its list, and what it costs, once it was played.
type run struct {
	number int
	config api.Config
	cost   api.Cost
}

// runsOf tells those of the configurations that may be.
func runsOf(configs []api.Config) []run {
	var runs []run
	for i, c := range configs {
		if arena.Valid(c) {
			runs = append(runs, run{number: i, config: c})
		}
	}
	return runs
}

// playAll has workers play the operations under each run's configuration, and waits until all of them have ended. If end is closed meanwhile, costs may be missing.
func playAll(runs []run, ops []api.Op, workers int, end <-chan struct{}) {
	// With room for all of them nobody need wait to hand them out.
	work := make(chan *run, len(runs))
	for i := range runs {
		work <- &runs[i]
	}
	close(work)
	play := player(ops, end)
	var gone sync.WaitGroup
	gone.Add(workers)
	for range workers {
		go func() {
			defer gone.Done()
			toil(work, end, play)
		}()
	}
	gone.Wait()
}

// toil is what a worker does. No two have the same run.
func toil(work <-chan *run, end <-chan struct{}, play func(c api.Config) (api.Cost, api.Errno)) {
	for {
		select {
		case <-end:
			return
		case r, more := <-work:
			if !more {
				return
			}
			r.cost, _ = play(r.config) // one that may be isn't refused
		}
	}
}

// firstBest tells the first run than whose cost no other's is better.
func firstBest(runs []run, goal api.Goal) run {
	first := runs[0]
	for _, r := range runs[1:] {
		if Better(goal, r.cost, first.cost) {
			first = r
		}
	}
	return first
}
