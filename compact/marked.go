package compact

import (
	"midden/api"
	"midden/arena"
	"midden/cell"
	"midden/marks"
)

// marked tells the marked objects, each with its place and its words. It is refused, unless what is marked is just they.
func marked(a *arena.Arena, m *marks.Map) ([]api.Move, api.Errno) {
	if _, e := a.Check(); e != api.OK {
		return nil, e
	}
	if m.Words() != wordsIn(a) {
		return nil, api.ErrCompactMarks
	}
	var list []api.Move
	total := 0
	for space := api.SpaceEden; space <= api.SpaceTenured; space++ {
		for at := range a.Objects(space) {
			words := cell.Size(a.Word(at))
			if m.Count(at, at+words) == words {
				list = append(list, api.Move{From: at, Words: words})
				total += words
			}
		}
	}
	// Marks on a part of an object, or on what is none, are beyond that number.
	if m.Count(0, m.Words()) != total {
		return nil, api.ErrCompactMarks
	}
	return list, api.OK
}

// wordsIn tells how many words the array has: the tenured space is the last one.
func wordsIn(a *arena.Arena) int {
	_, behind := a.Bounds(api.SpaceTenured)
	return behind
}
