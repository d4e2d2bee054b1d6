package tuner_test

import (
	"fmt"
	"sync"
	"testing"
	"time"

	"midden/api"
	"midden/tuner"
)

func TestCancel(t *testing.T) {
	c := tuner.NewCancel()
	for range 3 {
		want(t, "P22.3: a new one", c.Cancelled(), false)
	}
	for range 3 {
		c.Cancel()
		want(t, "P22.3: cancelled", c.Cancelled(), true)
		want(t, "P22.3: for good", c.Cancelled(), true)
	}
}

// TestCancelsApart: each is one of its own.
func TestCancelsApart(t *testing.T) {
	one, two := tuner.NewCancel(), tuner.NewCancel()
	one.Cancel()
	want(t, "P22.3: another one", two.Cancelled(), false)
	want(t, "P22.3: one that is made later", tuner.NewCancel().Cancelled(), false)
	two.Cancel()
	want(t, "P22.3: the other one too", []bool{one.Cancelled(), two.Cancelled()}, []bool{true, true})
}

// TestCancelAtOnce: by many, from anywhere; whoever has cancelled it sees it cancelled, and it never comes back.
func TestCancelAtOnce(t *testing.T) {
	for range 50 {
		c := tuner.NewCancel()
		var group sync.WaitGroup
		seen := make([]bool, 16)
		for i := range seen {
			group.Add(1)
			go func() {
				defer group.Done()
				if i%2 == 0 {
					c.Cancel()
					seen[i] = c.Cancelled()
					return
				}
				was := c.Cancelled()
				seen[i] = c.Cancelled() || !was
			}()
		}
		group.Wait()
		for i, is := range seen {
			if !is {
				t.Errorf("P22.3: cancelled at once, by %d: not seen", i)
			}
		}
		want(t, "P22.3: cancelled at once", c.Cancelled(), true)
	}
}

// TestCancelThatNobodyMade: one that NewCancel didn't make is one that isn't cancelled.
func TestCancelThatNobodyMade(t *testing.T) {
	var one, two tuner.Cancel
	want(t, "rule 1: the zero Cancel", one.Cancelled(), false)
	is := answer{0, costs(t, small(), first()), api.OK}
	want(t, "rule 1: Best with it", best([]api.Config{small()}, first(), api.Goal{}, 2, &two), is)
	two.Cancel()
	two.Cancel()
	want(t, "rule 1: cancelled", two.Cancelled(), true)
	want(t, "rule 1: Best with it", best([]api.Config{small()}, first(), api.Goal{}, 2, &two), answer{err: api.ErrTunerCancelled})
}

// TestCancelledAhead: once or twice, it ends all calls that are handed it, and no others.
func TestCancelledAhead(t *testing.T) {
	is := answer{0, costs(t, small(), first()), api.OK}
	row := []api.Config{small(), with("Eden", 80)}
	for workers := 1; workers <= mostWorkers; workers++ {
		c := tuner.NewCancel()
		for range 2 {
			want(t, "P22.4: not cancelled", best(row[:1], first(), api.Goal{}, workers, c), is)
			got, e := tuner.Climb(small(), first(), api.Goal{}, 3, workers, c)
			want(t, "P22.6: not cancelled", []any{got, e}, []any{row, api.OK})
			want(t, "P22.3: calls cancel nothing", c.Cancelled(), false)
		}
		for range 2 {
			c.Cancel()
			for range 2 {
				want(t, "P22.4: cancelled", best(row, first(), api.Goal{}, workers, c), answer{err: api.ErrTunerCancelled})
				want(t, "P22.4: cancelled, no operations", best(row, nil, api.Goal{}, workers, c), answer{err: api.ErrTunerCancelled})
				for _, steps := range []int{0, 1, mostSteps} {
					refusedClimb(t, "cancelled", small(), first(), steps, workers, c, api.ErrTunerCancelled)
					refusedClimb(t, "cancelled, no operations", small(), nil, steps, workers, c, api.ErrTunerCancelled)
				}
			}
			want(t, "P22.4: another Cancel", best(row[:1], first(), api.Goal{}, workers, tuner.NewCancel()), is)
			want(t, "P22.4: no Cancel", best(row[:1], first(), api.Goal{}, workers, nil), is)
		}
	}
}

// long are operations that take a minute and more under wide: many objects' words are gone through at each.
func long() []api.Op {
	ops := []api.Op{push(8)}
	for slot := range 8 {
		ops = append(ops, op(api.OpAlloc, slot, api.Plain, 4095, 4000))
	}
	return append(ops, times(mostOps-len(ops), major)...)
}

// soon tells how long a call may take that was cancelled: far longer than an operation, far shorter than a script.
const soon = 10 * time.Second

// endsSoon holds a call to end soon behind its being cancelled, some time after it began.
func endsSoon(t *testing.T, what string, after time.Duration, call func(c *tuner.Cancel)) {
	t.Helper()
	c := tuner.NewCancel()
	ended := make(chan struct{})
	go func() {
		defer close(ended)
		call(c)
	}()
	time.Sleep(after)
	c.Cancel()
	select {
	case <-ended:
	case <-time.After(soon):
		t.Fatalf("%s: it goes on though it was cancelled", what)
	}
}

// TestCancelledWhileItRuns: within a script, not just between two.
func TestCancelledWhileItRuns(t *testing.T) {
	ops := long()
	for _, workers := range []int{1, 3, 8} {
		for _, many := range []int{1, mostConfigs} {
			endsSoon(t, fmt.Sprintf("P22.4: %d by %d", many, workers), 30*time.Millisecond, func(c *tuner.Cancel) {
				want(t, "P22.4: cancelled meanwhile", best(times(many, wide()), ops, api.Goal{}, workers, c), answer{err: api.ErrTunerCancelled})
			})
		}
		for _, steps := range []int{1, mostSteps} {
			endsSoon(t, fmt.Sprintf("P22.6: %d steps by %d", steps, workers), 30*time.Millisecond, func(c *tuner.Cancel) {
				refusedClimb(t, "cancelled meanwhile", wide(), ops, steps, workers, c, api.ErrTunerCancelled)
			})
		}
	}
}

// TestCancelledAtAnyTime: the answer is that of a call that nobody cancels, or it tells that it was cancelled.
func TestCancelledAtAnyTime(t *testing.T) {
	c, ops := steep()
	ops = ops[:300]
	list := times(20, c)
	whole := bestOf(t, list, ops, api.Goal{})
	row, _ := tuner.Climb(c, ops, api.Goal{}, 4, 4, nil)
	for round := range 40 {
		workers, after := 1+round%8, time.Duration(round)*200*time.Microsecond
		endsSoon(t, "P22.4", after, func(k *tuner.Cancel) {
			if is := best(list, ops, api.Goal{}, workers, k); is.err != api.OK {
				want(t, "P22.4: cancelled meanwhile", is, answer{err: api.ErrTunerCancelled})
			} else {
				want(t, "P22.4: ended ahead of it", is, whole)
			}
		})
		endsSoon(t, "P22.6", 3*after, func(k *tuner.Cancel) {
			if got, e := tuner.Climb(c, ops, api.Goal{}, 4, workers, k); e != api.OK {
				want(t, "P22.6: cancelled meanwhile", []any{got, e}, []any{[]api.Config(nil), api.ErrTunerCancelled})
			} else {
				want(t, "P22.6: ended ahead of it", got, row)
			}
		})
	}
}
