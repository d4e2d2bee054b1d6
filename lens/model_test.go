package lens_test

import (
	"slices"

	"midden/api"
)

// The chapter's words, taken one by one.

// without tells the graph where all pointers to an object are null.
func without(g api.Graph, gone int) api.Graph {
	null := func(list []int) []int {
		list = slices.Clone(list)
		for i, n := range list {
			if n == gone {
				list[i] = 0
			}
		}
		return list
	}
	other := api.Graph{Handles: null(g.Handles), Queue: null(g.Queue)}
	for _, o := range g.Objects {
		o.Ptrs = null(o.Ptrs)
		other.Objects = append(other.Objects, o)
	}
	for _, frames := range g.Slots {
		var list [][]int
		for _, slots := range frames {
			list = append(list, null(slots))
		}
		other.Slots = append(other.Slots, list)
	}
	return other
}

// roots tells what the slots, the open handles and the queue hold.
func roots(g api.Graph) []int {
	var list []int
	for _, frames := range g.Slots {
		for _, slots := range frames {
			list = append(list, slots...)
		}
	}
	list = slices.Concat(list, g.Handles, g.Queue)
	return slices.DeleteFunc(list, func(n int) bool { return n <= 0 })
}

// strong tells what an object's strong fields hold.
func strong(o api.Object) []int {
	var list []int
	for i, n := range o.Ptrs {
		weak := o.Kind == api.Weak && i == 0 || o.Kind == api.Ephemeron && i <= 1
		if n != 0 && !weak {
			list = append(list, n)
		}
	}
	return list
}

// reach tells by number whether an object is in Reach: it is gone through all objects until nothing is new.
func reach(g api.Graph) []bool {
	is := make([]bool, len(g.Objects)+1)
	fresh := true
	meet := func(list ...int) {
		for _, n := range list {
			if n != 0 && !is[n] {
				is[n], fresh = true, true
			}
		}
	}
	meet(roots(g)...)
	for fresh {
		fresh = false
		for i, o := range g.Objects {
			if !is[i+1] {
				continue
			}
			meet(strong(o)...)
			if o.Kind == api.Ephemeron && o.Ptrs[0] != 0 && is[o.Ptrs[0]] {
				meet(o.Ptrs[1])
			}
		}
	}
	return is
}

// words tells the words of all objects of a set.
func words(g api.Graph, is []bool) int {
	sum := 0
	for i, o := range g.Objects {
		if is[i+1] {
			sum += 2 + len(o.Ptrs) + len(o.Raws)
		}
	}
	return sum
}

// retained is P17.3.
func retained(g api.Graph) []int {
	var list []int
	is := reach(g)
	for i := range g.Objects {
		if !is[i+1] {
			list = append(list, 0)
			continue
		}
		list = append(list, words(g, is)-words(g, reach(without(g, i+1))))
	}
	return list
}

// ways is P17.2, by number.
func ways(g api.Graph) [][]int {
	list := [][]int{roots(g)}
	for _, o := range g.Objects {
		list = append(list, strong(o))
	}
	return list
}

// met tells by number whether ways lead there from 0 that don't go through one number.
func met(ways [][]int, past int) []bool {
	is := make([]bool, len(ways))
	for open := []int{0}; len(open) > 0; {
		n := open[0]
		open = open[1:]
		if n != past && !is[n] {
			is[n] = true
			open = append(open, ways[n]...)
		}
	}
	return is
}

// standing tells by number whether the first one stands on every way from 0 to it; all numbers, 0 and the number itself included.
func standing(ways [][]int, on int) []bool {
	is := met(ways, -1)
	for n, still := range met(ways, on) {
		is[n] = is[n] && !still
	}
	return is
}

// dominators is P17.4.
func dominators(g api.Graph) []int {
	w := ways(g)
	var on [][]bool
	for n := range w {
		on = append(on, standing(w, n))
	}
	var list []int
	for n := 1; n < len(w); n++ {
		list = append(list, dominator(on, n))
	}
	return list
}

// dominator tells of those that stand on every way to a number the one that all the others stand ahead of.
func dominator(on [][]bool, n int) int {
	for d := range on {
		if d == n || !on[d][n] {
			continue
		}
		last := true
		for other := range on {
			if other != n && other != d && on[other][n] && !on[other][d] {
				last = false
			}
		}
		if last {
			return d
		}
	}
	return -1
}

// path is P17.5, by all lists of unlike objects, the shorter ones first.
func path(g api.Graph, to int) []int {
	w := ways(g)
	for lists := [][]int{nil}; len(lists) > 0; {
		var longer, there [][]int
		for _, l := range lists {
			at := 0
			if len(l) > 0 {
				at = l[len(l)-1]
			}
			for _, n := range w[at] {
				if slices.Contains(l, n) {
					continue
				}
				longer = append(longer, append(slices.Clone(l), n))
				if n == to {
					there = append(there, longer[len(longer)-1])
				}
			}
		}
		if len(there) > 0 {
			return slices.MinFunc(there, slices.Compare[[]int])
		}
		lists = longer
	}
	return nil
}

// far tells by number how many objects stand on a shortest list from it to an object, both counted; 0, if none leads there.
func far(ways [][]int, to int) []int {
	list := make([]int, len(ways))
	list[to] = 1
	for round := 1; slices.Contains(list, round); round++ {
		for n, l := range ways {
			if list[n] == 0 && slices.ContainsFunc(l, func(next int) bool { return list[next] == round }) {
				list[n] = round + 1
			}
		}
	}
	return list
}

// steered is P17.5 for greater graphs: from 0 on always to the least one of those that are nearest.
func steered(ways [][]int, to int) []int {
	left := far(ways, to)
	var list []int
	for n := 0; n != to && left[n] > 0; {
		next := len(ways)
		for _, m := range ways[n] {
			if left[m] == left[n]-1 {
				next = min(next, m)
			}
		}
		n = next
		list = append(list, n)
	}
	return list
}
