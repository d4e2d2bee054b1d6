package tuner_test

import (
	"fmt"
	"testing"

	"midden/api"
	"midden/tuner"
)

// holds holds Better of two costs, both ways, to which one is better: 1 the first, -1 the second, 0 none.
func holds(t *testing.T, what string, goal int, a, b api.Cost, which int) {
	t.Helper()
	g := api.Goal{Worst: goal}
	if one, two := tuner.Better(g, a, b), tuner.Better(g, b, a); one != (which > 0) || two != (which < 0) {
		t.Errorf("P22.2: %s: goal %d, %+v and %+v: %v and %v", what, goal, a, b, one, two)
	}
}

// TestBetterInOneAlone: costs that differ in one number alone.
func TestBetterInOneAlone(t *testing.T) {
	for _, goal := range []int{0, -1, least, 1, 100, greatest} {
		for _, n := range []int{least, -7, -1, 0, 1, 5, 1 << 40, greatest - 1} {
			holds(t, "Failed", goal, api.Cost{Failed: n}, api.Cost{Failed: n + 1}, 1)
			holds(t, "Failed", goal, api.Cost{Failed: least}, api.Cost{Failed: n + 1}, 1)
			holds(t, "Total", goal, api.Cost{Total: n}, api.Cost{Total: n + 1}, 1)
			holds(t, "Total", goal, api.Cost{Total: n}, api.Cost{Total: greatest}, 1)
			holds(t, "Worst", goal, api.Cost{Worst: n}, api.Cost{Worst: n + 1}, 1)
			holds(t, "Worst", goal, api.Cost{Worst: least}, api.Cost{Worst: greatest}, 1)
		}
	}
}

// TestBetterInNone: the other numbers of a cost don't count.
func TestBetterInNone(t *testing.T) {
	for _, goal := range []int{0, -1, least, 1, 4, 5, 6, greatest} {
		for _, n := range []int{least, -1, 0, 1, greatest} {
			same := api.Cost{Failed: 3, Worst: 5, Total: 9}
			other := same
			other.Ops, other.Made, other.Minors, other.Alls, other.Majors, other.Freed, other.Promoted = n, n, n, n, n, n, n
			holds(t, "in none", goal, same, same, 0)
			holds(t, "in others", goal, same, other, 0)
			holds(t, "in others", goal, api.Cost{}, api.Cost{Made: n, Freed: -n}, 0)
		}
	}
}

// TestBetterBySeveral: numbers that speak against one another, and the goal's edges.
func TestBetterBySeveral(t *testing.T) {
	cost := func(failed, total, worst int) api.Cost { return api.Cost{Failed: failed, Total: total, Worst: worst} }
	for _, x := range []struct {
		what  string
		goal  int
		a, b  api.Cost
		which int
	}{
		{"Failed ahead of Total", 0, cost(0, 9, 1), cost(1, 0, 1), 1},
		{"Failed ahead of Worst", 0, cost(0, 1, 9), cost(1, 1, 0), 1},
		{"Failed ahead of both", 0, cost(2, 900, 900), cost(3, 1, 1), 1},
		{"Total ahead of Worst", 0, cost(1, 4, 90), cost(1, 5, 2), 1},
		{"the goal ahead of Failed", 20, cost(9, 1, 20), cost(0, 1, 21), 1},
		{"the goal ahead of Total", 20, cost(0, 999, 20), cost(0, 1, 21), 1},
		{"the goal ahead of both", 20, cost(9, 999, 3), cost(0, 1, 21), 1},
		{"both keep to it", 20, cost(1, 2, 20), cost(1, 3, 0), 1},
		{"both keep to it: Worst", 20, cost(1, 2, 19), cost(1, 2, 20), 1},
		{"neither keeps to it", 20, cost(1, 2, 900), cost(1, 3, 21), 1},
		{"neither keeps to it: Failed", 20, cost(0, 9, 900), cost(1, 3, 21), 1},
		{"neither keeps to it: Worst", 20, cost(1, 2, 21), cost(1, 2, 22), 1},
		{"a goal of 1", 1, cost(7, 7, 1), cost(0, 0, 2), 1},
		{"a goal of 0 is none", 0, cost(0, 1, 50), cost(0, 2, 0), 1},
		{"a goal of 0 is none", 0, cost(0, 1, 50), cost(0, 2, -5), 1},
		{"a goal below 0 is none", -1, cost(0, 1, 50), cost(0, 2, -5), 1},
		{"a goal below 0 is none", least, cost(0, 1, greatest), cost(0, 2, least), 1},
		{"a goal below 0 is none", -10, cost(0, 1, -5), cost(0, 2, -20), 1},
		{"the greatest goal", greatest, cost(0, 1, greatest), cost(0, 2, 0), 1},
		{"one below it", greatest - 1, cost(0, 2, 0), cost(0, 1, greatest), 1},
		{"far apart", 0, cost(least, 0, 0), cost(greatest, 0, 0), 1},
		{"far apart", 0, cost(0, least, 0), cost(0, greatest, 0), 1},
	} {
		holds(t, x.what, x.goal, x.a, x.b, x.which)
	}
}

// draw tells a cost of few different numbers, so that many are the same.
func (d *dice) draw() api.Cost {
	n := func() int { return d.of(0, 0, 1, 2, 5, -1, least, greatest) }
	return api.Cost{Ops: n(), Made: n(), Minors: n(), Alls: n(), Majors: n(), Failed: n(), Freed: n(), Promoted: n(), Worst: n(), Total: n()}
}

// TestBetterIsAnOrder: P22.8 of drawn costs, and P22.2 of each two of them.
func TestBetterIsAnOrder(t *testing.T) {
	d := dice(5)
	chains := 0
	for range 200000 {
		goal := api.Goal{Worst: d.of(0, -1, least, 1, 2, 4, 5, greatest)}
		a, b, c := d.draw(), d.draw(), d.draw()
		ab, bc := tuner.Better(goal, a, b), tuner.Better(goal, b, c)
		if ab != better(goal, a, b) || bc != better(goal, b, c) {
			t.Fatalf("P22.2: goal %d, %+v, %+v, %+v: %v, %v", goal.Worst, a, b, c, ab, bc)
		}
		if tuner.Better(goal, a, a) {
			t.Fatalf("P22.8: goal %d: %+v is better than itself", goal.Worst, a)
		}
		if ab && tuner.Better(goal, b, a) {
			t.Fatalf("P22.8: goal %d: %+v and %+v are better than one another", goal.Worst, a, b)
		}
		if ab && bc {
			chains++
			if !tuner.Better(goal, a, c) {
				t.Fatalf("P22.8: goal %d: %+v is better than %+v, and that than %+v", goal.Worst, a, b, c)
			}
		}
	}
	if chains < 1000 {
		t.Error(fmt.Sprint("only so many chains: ", chains))
	}
}
