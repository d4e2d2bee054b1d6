package remset_test

import (
	"testing"

	"midden/api"
)

// TestExamples: the chapter's three, one behind the other. (x has a field and a raw one, so that y stands at 5.)
func TestExamples(t *testing.T) {
	a, s := made(t, small())
	put(t, a, api.SpaceEden, api.Head{Serial: 1, Kind: api.Plain, Ptrs: 1, Raws: 1})
	plain(t, a, api.SpaceEden, 0)
	plain(t, a, api.SpaceTenured, 2, 1)
	list(t, "P6.1", s)

	store(t, s, 193, 0, 1, api.OK)
	list(t, "P6.2", s, 193)
	store(t, s, 193, 1, 5, api.OK)
	list(t, "P6.2", s, 193)
	store(t, s, 193, 0, 0, api.OK)
	store(t, s, 193, 1, 0, api.OK)
	list(t, "P6.2", s, 193)
	s.Prune()
	list(t, "P6.4", s)
	want(t, "P6.4: Held", heldAt(a), []int{})

	store(t, s, 2, 0, 1, 60)
	store(t, s, 193, 2, 1, 61)
	store(t, s, 193, 0, 3, 62)
	store(t, s, 197, 0, 193, api.OK)
	list(t, "P6.2: 193 isn't young", s)
	store(t, s, 1, 0, 5, api.OK)
	list(t, "P6.2: 1 isn't tenured", s)

	point(t, a, 197, 0, 1)
	missing(t, s, 197, true)
	s.Rebuild()
	list(t, "P6.5", s, 197)
	s.Prune(193)
	list(t, "P6.4", s, 197)
	missing(t, s, 0, false)
}

// TestHeadersThatHappen: an object is told by the words as they stand: the address 5 is the first word of a header, too.
func TestHeadersThatHappen(t *testing.T) {
	a, s := made(t, small())
	put(t, a, api.SpaceEden, api.Head{Serial: 5, Kind: api.Plain, Ptrs: 1, Raws: 1})
	plain(t, a, api.SpaceEden, 0)
	plain(t, a, api.SpaceTenured, 2, 1)
	store(t, s, 2, 0, 1, api.ErrRemField)
	store(t, s, 193, 0, 3, api.ErrRemTarget)
	store(t, s, 1, 0, 5, api.OK)
	store(t, s, 193, 0, 3, api.OK)
	list(t, "P6.2", s, 193)
}
