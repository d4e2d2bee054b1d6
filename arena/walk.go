package arena

import (
	"iter"

	"midden/api"
	"midden/cell"
)

// Objects gives a space's objects in order, with their headers; fillers are passed over.
func (a *Arena) Objects(space int) iter.Seq2[int, api.Head] {
	return func(yield func(int, api.Head) bool) {
		e := a.extent(space)
		for at := a.pastFillers(e.top, e.first); at < e.top; {
			o, ok := a.below(e.top, at)
			if !ok || !yield(at, o.head) {
				return
			}
			at = a.pastFillers(e.top, at+len(o.words))
		}
	}
}

// pastFillers tells the first word from an address on at which no filler stands that ends at a top or ahead of it.
func (a *Arena) pastFillers(top, at int) int {
	for at < top {
		words, ok := cell.Filled(a.words[at])
		if !ok || words > top-at {
			return at
		}
		at += words
	}
	return at
}

// Check walks through all spaces: the first address at which the walk fails.
func (a *Arena) Check() (int, api.Errno) {
	for space := api.SpaceEden; space <= api.SpaceTenured; space++ {
		if at := a.walked(space); at < a.Top(space) {
			return at, api.ErrArenaWalk
		}
	}
	return 0, api.OK
}

// walked tells how far the walk through a space comes. Objects doesn't tell why it ended: that shows behind the last one, where there are fillers at most if all is well.
func (a *Arena) walked(space int) int {
	behind, _ := a.Bounds(space)
	for at, h := range a.Objects(space) {
		behind = at + size(h)
	}
	return a.pastFillers(a.Top(space), behind)
}
