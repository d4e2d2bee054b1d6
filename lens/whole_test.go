package lens_test

import (
	"fmt"
	"slices"
	"sync"
	"testing"

	"midden/api"
	"midden/lens"
)

// below tells by number whether an object is dominated by one, near or far, or is it.
func below(above []int, top int) []bool {
	is := make([]bool, len(above)+1)
	for i := range above {
		for n := i + 1; n > 0; n = above[n-1] {
			if n == top {
				is[i+1] = true
			}
		}
	}
	return is
}

// Where no object of Reach is an ephemeron, the words are those of what an object dominates. Ephemerons out of Reach change nothing of that.
func TestRetainedIsWhatIsDominated(t *testing.T) {
	looked, keys := 0, 0
	for seed := range 3000 {
		d := dice(50000 + seed)
		g := d.graph(1+d.below(30), 1+d.below(3), kinds[seed%4]...)
		is := reach(g)
		ephemeron := func(n int) bool { return g.Objects[n-1].Kind == api.Ephemeron }
		here := slices.ContainsFunc(numbers(is), ephemeron)
		if here {
			continue
		}
		looked++
		if slices.ContainsFunc(g.Objects, func(o api.Object) bool { return o.Kind == api.Ephemeron }) {
			keys++
		}
		above, told := dominates(t, g), retains(t, g)
		for _, n := range numbers(is) {
			want(t, fmt.Sprintf("P17.10: seed %d: %d", seed, n), told[n-1], words(g, below(above, n)))
		}
	}
	if looked < 1000 || keys < 20 {
		t.Errorf("the dice give %d graphs without ephemerons in Reach, %d with some out of it", looked, keys)
	}
}

// numbers tells those at which a list is true.
func numbers(is []bool) []int {
	var list []int
	for n, here := range is {
		if here {
			list = append(list, n)
		}
	}
	return list
}

// What goes with another object is never retained more than that one; all lie between their own words and those of Reach.
func TestRetainedBounds(t *testing.T) {
	for seed := range 1500 {
		d := dice(60000 + seed)
		g := d.graph(1+d.below(12), 1+d.below(3), kinds[seed%len(kinds)]...)
		is := reach(g)
		told := retains(t, g)
		for _, n := range numbers(is) {
			own := 2 + len(g.Objects[n-1].Ptrs) + len(g.Objects[n-1].Raws)
			if told[n-1] < own || told[n-1] > words(g, is) {
				t.Errorf("P17.11: seed %d: %d retains %d, of its own %d, of all %d", seed, n, told[n-1], own, words(g, is))
			}
			still := reach(without(g, n))
			for _, m := range numbers(is) {
				if !still[m] && told[m-1] > told[n-1] {
					t.Errorf("P17.11: seed %d: %d retains %d, and %d, which goes with it, %d", seed, n, told[n-1], m, told[m-1])
				}
			}
		}
	}
}

// A path's objects are unlike, each leads to the next, and all that dominate its end are among them.
func TestPathPassesDominators(t *testing.T) {
	for seed := range 400 {
		d := dice(70000 + seed)
		g := d.graph(1+d.below(60), 1+d.below(3), kinds[seed%len(kinds)]...)
		above, w := dominates(t, g), ways(g)
		for to := 1; to <= len(g.Objects); to++ {
			list := leads(t, g, to)
			want(t, "P17.4, P17.5: a path, if there is a dominator", len(list) > 0, above[to-1] >= 0)
			sorted := slices.Sorted(slices.Values(list))
			want(t, "P17.12: unlike objects", len(slices.Compact(sorted)), len(list))
			at := 0
			for _, n := range list {
				if !slices.Contains(w[at], n) {
					t.Errorf("P17.5: seed %d: no way from %d to %d", seed, at, n)
				}
				at = n
			}
			for n := above[to-1]; n > 0; n = above[n-1] {
				if !slices.Contains(list, n) {
					t.Errorf("P17.12: seed %d: %d dominates %d, and isn't in %v", seed, n, to, list)
				}
			}
		}
	}
}

// P20.8 of the whole: as the document says it of one object at a time.
func TestRetainedIsWhatReachLoses(t *testing.T) {
	for seed := range 40 {
		d := dice(80000 + seed)
		g := d.graph(150, 2, kinds[2+seed%4]...)
		sound(t, g)
		want(t, fmt.Sprint("P17.3, P20.8: seed ", seed), retains(t, g), retained(g))
	}
}

// All calls may be made at once, of one graph, and answer what they answer one by one, again and again.
func TestCallsAtOnce(t *testing.T) {
	d := dice(8)
	g := d.graph(60, 2, kinds[3]...)
	answers := func() string {
		s := fmt.Sprint(lens.Retained(g)) + fmt.Sprint(lens.Dominators(g)) + fmt.Sprint(lens.Grown(api.Graph{}, g))
		for to := range g.Objects {
			s += fmt.Sprint(lens.Path(g, to))
		}
		return s + fmt.Sprint(found(g, 4, nil, func(o api.Object) bool { return o.Kind == api.Final }))
	}
	is := answers()
	var group sync.WaitGroup
	said := make([]string, 8)
	for i := range said {
		group.Add(1)
		go func() {
			defer group.Done()
			said[i] = answers()
		}()
	}
	group.Wait()
	for _, s := range said {
		want(t, "P17.9: at once", s, is)
	}
}
