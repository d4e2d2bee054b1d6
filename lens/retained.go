package lens

import (
	"slices"

	"midden/api"
)

// retained tells by number the words that go with an object; with 0 all of Reach goes.
// Without most objects all ephemerons that hold their values do so still: with such a one just those go that it dominates, if the values are taken for roots. Without any other one Reach is looked for anew, which takes much longer.
func retained(g api.Graph) []int {
	w := webOf(g)
	words := wordsOf(g)
	by := w.reach(func(int) bool { return false })
	holding := w.holding(by)
	told := treeOf(w.waysWith(holding)).gathered(words)
	for _, n := range needed(by, holding) {
		rest := w.reach(func(other int) bool { return other == n })
		told[n] = told[0] - met(words, rest)
	}
	return told
}

// wordsOf tells by number the words of an object; 0 has none.
func wordsOf(g api.Graph) []int {
	words := []int{0}
	for _, o := range g.Objects {
		words = append(words, size(o))
	}
	return words
}

// met tells the words of all that was met.
func met(words, by []int) int {
	all := 0
	for n, through := range by {
		if through != nobody {
			all += words[n]
		}
	}
	return all
}

// holding tells the ephemerons that hold their values.
func (w *web) holding(by []int) []ephemeron {
	var list []ephemeron
	for _, e := range w.pairs {
		if e.holds(by) {
			list = append(list, e)
		}
	}
	return list
}

// waysWith tells the ways, and from 0 one to the value of each of these ephemerons.
func (w *web) waysWith(holding []ephemeron) [][]int {
	ways := slices.Clone(w.ways)
	ways[0] = slices.Clone(ways[0])
	for _, e := range holding {
		ways[0] = append(ways[0], e.value)
	}
	return ways
}

// needed tells the objects through which these ephemerons and their keys were met, and themselves. (Without any other object they are met in the same way.)
func needed(by []int, holding []ephemeron) []int {
	var list []int
	listed := make([]bool, len(by))
	trail := func(n int) {
		for ; n != 0 && !listed[n]; n = by[n] {
			listed[n] = true
			list = append(list, n)
		}
	}
	for _, e := range holding {
		trail(e.itself)
		trail(e.key)
	}
	return list
}
