package weak

import (
	"midden/api"
	"midden/arena"
	"midden/marks"
)

// place: a pointer field of an object.
type place struct {
	at, field int
}

// lost tells the fields of marked objects that are to become null. Nothing may be written while the objects are gone through.
func lost(a *arena.Arena, m *marks.Map) []place {
	var list []place
	for at, h := range objects(a) {
		if m.Has(at) && !holds(a, m, at) {
			list = append(list, filled(a, at, loose(h.Kind))...)
		}
	}
	return list
}

// holds tells whether what field 0 holds is marked. Null never is, whatever is marked.
func holds(a *arena.Arena, m *marks.Map, at int) bool {
	to, _ := a.Ptr(at, 0)
	return to != 0 && m.Has(to)
}

// loose tells how many fields of a kind, from field 0 on, are held only as long as what field 0 holds is marked.
func loose(kind int) int {
	switch kind {
	case api.Weak:
		return 1
	case api.Ephemeron:
		return 2
	}
	return 0
}

// filled tells which of the first fields aren't null.
func filled(a *arena.Arena, at, fields int) []place {
	var list []place
	for i := range fields {
		if to, _ := a.Ptr(at, i); to != 0 {
			list = append(list, place{at, i})
		}
	}
	return list
}

// clearAll makes fields null, and tells how many.
func clearAll(a *arena.Arena, list []place) int {
	for _, p := range list {
		a.SetPtr(p.at, p.field, 0)
	}
	return len(list)
}
