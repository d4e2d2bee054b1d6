package weak

import (
	"midden/api"
	"midden/arena"
	"midden/marks"
)

// tie: an ephemeron, and what it ties together.
type tie struct {
	at, key, value int
}

// due tells whether the value is to be marked.
func (t tie) due(m *marks.Map) bool {
	return m.Has(t.at) && m.Has(t.key) && !m.Has(t.value)
}

// ties tells the ephemerons whose values may come to be due. (A value that is no object's address never does: marking from it would be refused.)
func ties(a *arena.Arena, m *marks.Map) []tie {
	var list []tie
	for at, h := range objects(a) {
		if h.Kind != api.Ephemeron {
			continue
		}
		key, _ := a.Ptr(at, 0)
		value, _ := a.Ptr(at, 1)
		if key != 0 && stands(a, value) && !m.Has(value) {
			list = append(list, tie{at, key, value})
		}
	}
	return list
}

// follow marks from the values that are due until none is, and tells who waits on.
func follow(m *marks.Map, waiting []tie, mark marker) []tie {
search:
	for {
		for _, t := range waiting {
			if t.due(m) {
				var values []int
				values, waiting = part(m, waiting)
				mark(values)
				continue search
			}
		}
		return waiting
	}
}

// part tells all values that are due, since one marking costs less than many, and who waits on: in the place of waiting.
func part(m *marks.Map, waiting []tie) (values []int, rest []tie) {
	rest = waiting[:0]
	for _, t := range waiting {
		switch {
		case t.due(m):
			values = append(values, t.value)
		case !m.Has(t.value):
			rest = append(rest, t)
		}
	}
	return values, rest
}
