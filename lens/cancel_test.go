package lens_test

import (
	"sync"
	"testing"

	"midden/lens"
)

func TestCancel(t *testing.T) {
	c := lens.NewCancel()
	for range 3 {
		want(t, "P17.8: a new one", c.Cancelled(), false)
	}
	for range 3 {
		c.Cancel()
		want(t, "P17.8: cancelled", c.Cancelled(), true)
		want(t, "P17.8: for good", c.Cancelled(), true)
	}
}

// Each is one of its own.
func TestCancelsApart(t *testing.T) {
	one, two := lens.NewCancel(), lens.NewCancel()
	one.Cancel()
	want(t, "P17.8: another one", two.Cancelled(), false)
	want(t, "P17.8: one that is made later", lens.NewCancel().Cancelled(), false)
	two.Cancel()
	want(t, "P17.8: the other one too", []bool{one.Cancelled(), two.Cancelled()}, []bool{true, true})
}

// Many at once, from anywhere: whoever has cancelled it sees it cancelled, and it never comes back.
func TestCancelAtOnce(t *testing.T) {
	for range 50 {
		c := lens.NewCancel()
		var group sync.WaitGroup
		seen := make([]bool, 16)
		for i := range seen {
			group.Add(1)
			go func() {
				defer group.Done()
				if i%2 == 0 {
					c.Cancel()
					seen[i] = c.Cancelled()
					return
				}
				was := c.Cancelled()
				seen[i] = c.Cancelled() || !was
			}()
		}
		group.Wait()
		for i, is := range seen {
			if !is {
				t.Errorf("P17.8: cancelled at once, by %d: not seen", i)
			}
		}
		want(t, "P17.8: cancelled at once", c.Cancelled(), true)
	}
}

// One that NewCancel didn't make is one that isn't cancelled.
func TestCancelThatNobodyMade(t *testing.T) {
	var c lens.Cancel
	want(t, "rule 1: the zero Cancel", c.Cancelled(), false)
	var other lens.Cancel
	want(t, "rule 1: Find with the zero Cancel", found(example(), 2, &other, everyone), [2]int{1, 0})
	var third lens.Cancel
	third.Cancel()
	third.Cancel()
	want(t, "rule 1: the zero Cancel, cancelled", third.Cancelled(), true)
	want(t, "rule 1: Find with it", found(example(), 2, &third, everyone), [2]int{0, 172})
}
