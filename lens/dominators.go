package lens

// forest: the part of a dive that has been worked through, from its last place on, by the method of Lengauer and Tarjan. All is told by place.
// A place's semi is the least one from which a list of ways leads to it that passes greater places alone: its dominator stands there or above it.
type forest struct {
	semi  []int
	above []int // that above it in its tree; nobody at a tree's top
	best  []int // of itself and those that its above passes over by now, the one with the least semi
	trail []int // room for shorten
}

func newForest(places int) *forest {
	f := &forest{above: nobodies(places)}
	for at := range places {
		f.semi = append(f.semi, at)
		f.best = append(f.best, at)
	}
	return f
}

// dominators tells by place that of its dominator; of 0, which has none, 0.
func (d *dive) dominators() []int {
	f := newForest(len(d.order))
	told := make([]int, len(d.order))
	waiting := make([][]int, len(d.order)) // by place those whose semi it is
	for at := len(d.order) - 1; at > 0; at-- {
		f.reckon(at, d.from[at])
		waiting[f.semi[at]] = append(waiting[f.semi[at]], at)
		above := d.above[at]
		f.above[at] = above
		for _, other := range waiting[above] {
			told[other] = f.guess(other)
		}
		waiting[above] = nil // they need no second look
	}
	for at := range told {
		if told[at] != f.semi[at] {
			told[at] = told[told[at]]
		}
	}
	return told
}

// reckon reckons a place's semi from those from which ways lead to it.
func (f *forest) reckon(at int, from []int) {
	for _, other := range from {
		f.semi[at] = min(f.semi[at], f.semi[f.lowest(other)])
	}
}

// guess tells a place's dominator, if it is its semi; else a lesser place that has the same dominator.
func (f *forest) guess(at int) int {
	if lowest := f.lowest(at); f.semi[lowest] < f.semi[at] {
		return lowest
	}
	return f.semi[at]
}

// lowest tells which place from one up to its tree's top, the top left out, has the least semi; of a top the top itself.
func (f *forest) lowest(at int) int {
	if f.above[at] != nobody {
		f.shorten(at)
	}
	return f.best[at]
}

// shorten lays the places from one up to its tree's top right below the top, so that nobody goes a long way twice.
func (f *forest) shorten(at int) {
	f.trail = f.trail[:0]
	for ; f.above[f.above[at]] != nobody; at = f.above[at] {
		f.trail = append(f.trail, at)
	}
	for i := len(f.trail) - 1; i >= 0; i-- {
		at := f.trail[i]
		above := f.above[at]
		if f.semi[f.best[above]] < f.semi[f.best[at]] {
			f.best[at] = f.best[above]
		}
		f.above[at] = f.above[above]
	}
}
