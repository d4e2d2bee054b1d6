package arena

import "midden/api"

// spaces is how many there are.
const spaces = api.SpaceTenured - api.SpaceEden + 1

// extent: where a space lies, and how far it is used.
type extent struct {
	first, behind, top int
}

// extents cuts the array into spaces, without gaps, and tells how many words it has in all.
func extents(c api.Config) (cut [spaces]extent, words int) {
	words = 1
	for i, size := range [spaces]int{c.Eden, c.Survivor, c.Survivor, c.Tenured} {
		cut[i] = extent{first: words, behind: words + size, top: words}
		words += size
	}
	return cut, words
}

func isSpace(space int) bool { return space >= api.SpaceEden && space <= api.SpaceTenured }

// extent tells a space's; one of no words, if it is no space.
func (a *Arena) extent(space int) extent {
	if !isSpace(space) {
		return extent{}
	}
	return a.spaces[space-api.SpaceEden]
}

func (a *Arena) setTop(space, top int) { a.spaces[space-api.SpaceEden].top = top }

// Bounds tells a space's first word and the one behind its last.
func (a *Arena) Bounds(space int) (first, behind int) {
	e := a.extent(space)
	return e.first, e.behind
}

// Top tells a space's top, Free how many words lie from it on.
func (a *Arena) Top(space int) int { return a.extent(space).top }

func (a *Arena) Free(space int) int {
	e := a.extent(space)
	return e.behind - e.top
}

// Take takes so many words at a space's top.
func (a *Arena) Take(space, words int) (int, bool) {
	if words < 1 || words > a.Free(space) {
		return 0, false
	}
	at := a.Top(space)
	clear(a.piece(at, words))
	a.setTop(space, at+words)
	return at, true
}

// Cut lowers a space's top.
func (a *Arena) Cut(space, top int) bool {
	e := a.extent(space)
	if !isSpace(space) || top < e.first || top > e.top {
		return false
	}
	a.setTop(space, top)
	return true
}

// From tells the from space, To the to space; Swap changes their places.
func (a *Arena) From() int {
	if a.swapped {
		return api.SpaceB
	}
	return api.SpaceA
}

func (a *Arena) To() int {
	if a.swapped {
		return api.SpaceA
	}
	return api.SpaceB
}

func (a *Arena) Swap() { a.swapped = !a.swapped }

// Space tells the space in which an address lies, Young whether it is eden or the from space.
func (a *Arena) Space(at int) int {
	for i, e := range a.spaces {
		if at >= e.first && at < e.behind {
			return api.SpaceEden + i
		}
	}
	return api.SpaceNone
}

func (a *Arena) Young(at int) bool {
	space := a.Space(at)
	return space == api.SpaceEden || space == a.From()
}
