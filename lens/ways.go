package lens

import (
	"slices"

	"midden/api"
)

// nobody stands where a number is told and there is none.
const nobody = -1

// waysOf tells by number to which numbers ways lead, of a graph that may be. The number 0, from which they lead to the roots, is that of null, too: a way back to 0 opens no new one.
func waysOf(g api.Graph) [][]int {
	ways := [][]int{rootsOf(g)}
	for _, o := range g.Objects {
		ways = append(ways, o.Ptrs[firstStrong(o.Kind):])
	}
	return ways
}

// rootsOf tells what slots, open handles and the queue hold.
func rootsOf(g api.Graph) []int {
	list := slices.Concat(g.Handles, g.Queue)
	for _, frames := range g.Slots {
		list = append(list, slices.Concat(frames...)...)
	}
	return slices.DeleteFunc(list, func(n int) bool { return n < 1 })
}

// firstStrong tells the number of the first strong field: in each kind those that aren't strong come first.
func firstStrong(kind int) int {
	switch kind {
	case api.Weak:
		return 1
	case api.Ephemeron:
		return 2
	}
	return 0
}

// nobodies tells a list that has nobody at each number.
func nobodies(n int) []int { return slices.Repeat([]int{nobody}, n) }
