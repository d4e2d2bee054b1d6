package lens

import (
	"slices"

	"midden/bag"
)

// shortest tells the least one of the shortest lists along the ways from 0 to an object, 0 itself left out. Numbers are met in the order of the least lists to them, since from each number on the lesser ones are met first: so the first list that is found is the least one.
func shortest(ways [][]int, to int) []int {
	by := nobodies(len(ways))
	by[0] = 0
	open, _ := bag.NewIntQueue(0)
	for n, ok := 0, true; ok && by[to] == nobody; n, ok = open.Take() {
		for _, next := range slices.Sorted(slices.Values(ways[n])) {
			if by[next] == nobody {
				by[next] = n
				open.Put(next)
			}
		}
	}
	return listTo(by, to)
}

// listTo tells through whom an object was met, from the root on; none, if it wasn't.
func listTo(by []int, to int) []int {
	var list []int
	for n := to; n > 0 && by[n] != nobody; n = by[n] {
		list = append(list, n)
	}
	slices.Reverse(list)
	return list
}
