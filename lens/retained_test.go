package lens_test

import (
	"fmt"
	"testing"

	"midden/api"
)

// An ephemeron whose key, value or self goes, and those whose fields are null.
func TestRetainedOfEphemerons(t *testing.T) {
	e := func(ptrs ...int) api.Object { return object(api.Ephemeron, ptrs...) }
	for _, x := range []struct {
		what string
		g    api.Graph
		is   []int
	}{
		{"key and ephemeron hold the value together", graphOf([]int{1, 2}, e(2, 3), plain(), plain()), []int{6, 4, 2}},
		{"a slot holds the value, too", graphOf([]int{1, 2, 3}, e(2, 3), plain(), plain()), []int{4, 2, 2}},
		{"the key holds the value, too", graphOf([]int{1, 2}, e(2, 3), plain(3), plain()), []int{4, 5, 2}},
		{"the value holds the key", graphOf([]int{1, 2}, e(2, 3), plain(), plain(2)), []int{7, 5, 3}},
		{"the value alone holds the key", graphOf([]int{1}, e(2, 3), plain(), plain(2)), []int{4, 0, 0}},
		{"the ephemeron holds its key", graphOf([]int{1}, e(2, 3, 2), plain(), plain()), []int{9, 4, 2}},
		{"the key holds the ephemeron", graphOf([]int{2}, e(2, 3), plain(1), plain()), []int{6, 9, 2}},
		{"it is its own key", graphOf([]int{1}, e(1, 2), plain()), []int{6, 2}},
		{"it is its own value", graphOf([]int{1, 2}, e(2, 1), plain()), []int{4, 2}},
		{"it is its key's value alone", graphOf([]int{2}, e(2, 1), plain(), object(api.Final, 1)), []int{0, 2, 0}},
		{"its key is null", graphOf([]int{1}, e(0, 2), plain()), []int{4, 0}},
		{"its value is null", graphOf([]int{1, 2}, e(2, 0), plain()), []int{4, 2}},
		{"its key is out of Reach", graphOf([]int{1}, e(2, 3), plain(), plain()), []int{4, 0, 0}},
		{"it is out of Reach", graphOf([]int{2}, e(2, 3), plain(), plain(), object(api.Final, 1)), []int{0, 2, 0, 0}},
		{"two with one value and unlike keys", graphOf([]int{1, 2, 3, 4}, e(3, 5), e(4, 5), plain(), plain(), plain()), []int{4, 4, 2, 2, 2}},
		{"two with one value and one key", graphOf([]int{1, 2, 3}, e(3, 4), e(3, 4), plain(), plain()), []int{4, 4, 4, 2}},
		{"two with unlike values and one key", graphOf([]int{1, 2, 3}, e(3, 4), e(3, 5), plain(), plain(6), plain(6), plain()), []int{7, 7, 10, 3, 3, 2}},
		{"one holds what the other one's key is", graphOf([]int{1, 2, 3}, e(3, 4), e(4, 5), plain(), plain(), plain()), []int{8, 6, 6, 4, 2}},
		{"a key that two hold goes with neither", graphOf([]int{1, 4, 5}, e(2, 3), plain(), plain(), plain(2), plain(2)), []int{6, 4, 2, 3, 3}},
		{"a key that the value holds still, when it has no other holder", graphOf([]int{1, 4}, e(2, 3), plain(), plain(2), plain(2)), []int{7, 5, 3, 8}},
		{"several ways open the same", graphOf([]int{1, 2}, e(3, 4), plain(3, 5), plain(), plain(), plain(3)), []int{6, 11, 4, 2, 3}},
	} {
		sound(t, x.g)
		want(t, "P17.3: "+x.what, retains(t, x.g), x.is)
		want(t, "P17.3: the model: "+x.what, retained(x.g), x.is)
	}
}

// Where pointers of all kinds to an object are null, a weak field and a key as well.
func TestRetainedOutOfReach(t *testing.T) {
	g := graphOf([]int{1}, object(api.Weak, 2), plain(3), object(api.Final, 1), object(api.Ephemeron, 1, 5), plain(), object(api.Final, 4))
	sound(t, g)
	want(t, "P17.3: out of Reach", retains(t, g), []int{3, 0, 0, 0, 0, 0})
	want(t, "P17.4: out of Reach", dominates(t, g), []int{0, -1, -1, -1, -1, -1})
	for to := 2; to <= 6; to++ {
		want(t, "P17.5: out of Reach", leads(t, g, to), []int{})
	}
}

// Two ways to one object: neither holder retains it; a ring; an object that holds itself.
func TestRetainedOfShapes(t *testing.T) {
	for _, x := range []struct {
		what string
		g    api.Graph
		is   []int
	}{
		{"two holders", graphOf([]int{1, 2}, plain(3), plain(3), plain()), []int{3, 3, 2}},
		{"one of two that one holds", graphOf([]int{1}, plain(2, 3), plain(4), plain(4), plain()), []int{12, 3, 3, 2}},
		{"itself", graphOf([]int{1}, plain(1, 1)), []int{4}},
		{"a ring", graphOf([]int{2}, plain(2), plain(3), plain(1)), []int{3, 9, 6}},
		{"a ring with two entries", graphOf([]int{2, 1}, plain(2), plain(3), plain(1)), []int{3, 6, 3}},
		{"twice in the slots", graphOf([]int{1, 1, 0, 1}, plain(2, 2), plain()), []int{6, 2}},
		{"no slot holds any", graphOf([]int{0, 0}), nil},
	} {
		sound(t, x.g)
		want(t, "P17.3: "+x.what, retains(t, x.g), x.is)
	}
	g := graphOf([]int{0}, plain(2), plain())
	g.Handles, g.Queue, g.Slots = []int{1, 1}, []int{1, 2}, [][][]int{{{1}, {1}}, {{1}}}
	sound(t, g)
	want(t, "P17.3: slots, handles and queue hold one", retains(t, g), []int{3, 2})
}

// kinds are lists from which the dice take kinds: the fewer plain ones, the more hangs on keys.
var kinds = [][]int{
	{api.Plain},
	{api.Plain, api.Weak, api.Final},
	{api.Plain, api.Plain, api.Plain, api.Ephemeron},
	{api.Plain, api.Weak, api.Ephemeron, api.Final},
	{api.Ephemeron, api.Ephemeron, api.Plain},
	{api.Ephemeron},
}

// all calls, of many small graphs, against the models.
func TestSmallAgainstTheModels(t *testing.T) {
	for seed := range 6000 {
		d := dice(seed)
		g := d.graph(1+d.below(6), 1+d.below(3), kinds[seed%len(kinds)]...)
		sound(t, g)
		want(t, "P17.3: Retained", retains(t, g), retained(g))
		want(t, "P17.4: Dominators", dominates(t, g), dominators(g))
		for to := range g.Objects {
			want(t, fmt.Sprint("P17.5: Path to ", to+1), leads(t, g, to+1), path(g, to+1))
		}
		if t.Failed() {
			t.Fatalf("seed %d: %+v", seed, g)
		}
	}
}

func TestMiddlingAgainstTheModels(t *testing.T) {
	for seed := range 120 {
		d := dice(10000 + seed)
		g := d.graph(20+d.below(60), 1+d.below(3), kinds[seed%len(kinds)]...)
		sound(t, g)
		want(t, "P17.3: Retained", retains(t, g), retained(g))
		want(t, "P17.4: Dominators", dominates(t, g), dominators(g))
		for to := range g.Objects {
			want(t, fmt.Sprint("P17.5: Path to ", to+1), leads(t, g, to+1), steered(ways(g), to+1))
		}
		if t.Failed() {
			t.Fatalf("seed %d: %+v", seed, g)
		}
	}
}
