package tuner_test

import (
	"runtime"
	"slices"
	"sync"
	"testing"
	"time"

	"midden/api"
	"midden/tuner"
)

// settled waits until no more goroutines run than so many: one that has ended takes a moment to be gone.
func settled(n int) bool {
	for range 2000 {
		if runtime.NumGoroutine() <= n {
			return true
		}
		time.Sleep(time.Millisecond)
	}
	return false
}

// quiet tells how many goroutines run when those of earlier calls are gone.
func quiet() int {
	n := runtime.NumGoroutine()
	for range 20 {
		time.Sleep(time.Millisecond)
		n = min(n, runtime.NumGoroutine())
	}
	return n
}

// TestWorkersEnd: behind answers of all kinds no goroutine is left.
func TestWorkersEnd(t *testing.T) {
	c, ops := steep()
	ops = ops[:200]
	ahead := quiet()
	for workers := 1; workers <= mostWorkers; workers++ {
		for round := range 3 {
			k := tuner.NewCancel()
			best(times(12, c), ops, api.Goal{}, workers, nil)
			best(times(1, c), nil, api.Goal{}, workers, k)
			best(make([]api.Config, 9), ops, api.Goal{}, workers, k)
			tuner.Climb(c, ops, api.Goal{}, 2, workers, k)
			late := time.AfterFunc(time.Duration(round)*time.Millisecond, k.Cancel)
			best(times(60, c), ops, api.Goal{}, workers, k)
			tuner.Climb(c, ops, api.Goal{}, 9, workers, k)
			late.Stop()
			best(times(60, c), ops, api.Goal{}, workers, k)
			best(times(60, c), ops, api.Goal{}, workers+8, k)
		}
	}
	if !settled(ahead) {
		t.Errorf("P22.7: %d goroutines, %d ahead of the calls", runtime.NumGoroutine(), ahead)
	}
}

// TestNobodyPlaysBehindTheAnswer: cancelled within a script that would take a minute, the workers are gone at once, not when it is through.
func TestNobodyPlaysBehindTheAnswer(t *testing.T) {
	ops := long()
	ahead := quiet()
	for range 3 {
		k := tuner.NewCancel()
		late := time.AfterFunc(20*time.Millisecond, k.Cancel)
		best(times(8, wide()), ops, api.Goal{}, 8, k)
		late.Stop()
		if !settled(ahead) {
			t.Errorf("P22.7: %d goroutines, %d ahead of the calls", runtime.NumGoroutine(), ahead)
		}
	}
}

// atOnce tells how many goroutines more than the call's own are seen while it runs, up to so many; then the call is cancelled.
func atOnce(workers int, call func(k *tuner.Cancel)) int {
	ahead := quiet()
	k := tuner.NewCancel()
	ended := make(chan struct{})
	go func() {
		defer close(ended)
		call(k)
	}()
	for most := 0; ; {
		select {
		case <-ended:
			return most
		case <-time.After(100 * time.Microsecond):
			most = max(most, runtime.NumGoroutine()-ahead-1)
		}
		if most >= workers {
			k.Cancel()
			<-ended
			return most
		}
	}
}

// TestWorkersPlayAtOnce: as many of them as were asked for, seen from without. Nothing of these operations runs a cycle under wide or a neighbour of it, so none has goroutines of its own; they take long enough to be looked at.
func TestWorkersPlayAtOnce(t *testing.T) {
	ops := slices.Concat([]api.Op{push(1)}, times(2500, alloc(0, 3)), times(400, op(api.OpCensus)))
	want(t, "P22.1: cycles", costs(t, changed(wide(), "Eden", 49152), ops).Minors, 0)
	for workers := 1; workers <= mostWorkers; workers++ {
		want(t, "P22.4: workers at once", atOnce(workers, func(k *tuner.Cancel) {
			tuner.Best(times(mostConfigs, wide()), ops, api.Goal{}, workers, k)
		}), workers)
		want(t, "P22.6: workers at once", atOnce(workers, func(k *tuner.Cancel) {
			tuner.Climb(wide(), ops, api.Goal{}, 1, workers, k)
		}), workers)
	}
}

// TestCallsAtOnce: several calls share operations, configurations and a Cancel, and each answers as if it were alone.
func TestCallsAtOnce(t *testing.T) {
	d := dice(31)
	ops := d.script(1, 150)
	list := []api.Config{small(), d.config(), with("Eden", 63), d.config(), with("Eden", 200)}
	is, row := bestOf(t, list, ops, api.Goal{}), rowOf(t, small(), ops, api.Goal{}, 2)
	k := tuner.NewCancel()
	var group sync.WaitGroup
	bests, rows := make([]answer, mostWorkers), make([][]api.Config, mostWorkers)
	for i := range mostWorkers {
		group.Add(1)
		go func() {
			defer group.Done()
			bests[i] = best(list, ops, api.Goal{}, i+1, k)
			rows[i], _ = tuner.Climb(small(), ops, api.Goal{}, 2, i+1, k)
		}()
	}
	group.Wait()
	for i := range mostWorkers {
		want(t, "P22.7: Best at once", bests[i], is)
		want(t, "P22.7: Climb at once", rows[i], row)
	}
}

// TestSameEveryTime: whatever the number of workers, and however often; P22.7 of calls with much to do.
func TestSameEveryTime(t *testing.T) {
	for seed := range 12 {
		d := dice(600 + seed)
		ops := d.script(1, 150)
		var list []api.Config
		for range 12 {
			list = append(list, d.anyConfig())
		}
		list = append(list, small())
		goal := d.goal()
		is := best(list, ops, goal, 1, nil)
		row, _ := tuner.Climb(small(), ops, goal, 2, 1, nil)
		for workers := 1; workers <= mostWorkers; workers++ {
			want(t, "P22.7: Best", best(list, ops, goal, workers, nil), is)
			got, _ := tuner.Climb(small(), ops, goal, 2, workers, nil)
			want(t, "P22.7: Climb", got, row)
		}
	}
}
