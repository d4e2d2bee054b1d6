package trace

import (
	"midden/api"
	"midden/arena"
)

// leads tells to which objects one leads: what its strong fields hold. (A field that holds no object's address leads nowhere.)
func leads(a *arena.Arena, at int) []int {
	var list []int
	h, _ := a.Head(at)
	for i := firstStrong(h.Kind); i < h.Ptrs; i++ {
		if to, _ := a.Ptr(at, i); stands(a, to) {
			list = append(list, to)
		}
	}
	return list
}

// firstStrong tells the number of the first strong field: in each kind those that aren't strong come first.
func firstStrong(kind int) int {
	switch kind {
	case api.Weak:
		return 1
	case api.Ephemeron:
		return 2
	}
	return 0
}
