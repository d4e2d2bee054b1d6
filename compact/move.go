package compact

import (
	"midden/api"
	"midden/arena"
	"midden/marks"
)

// repoint makes the pointer fields of the objects that are to move hold where what they hold goes. They are written while all still stand where they stood: behind that words alone are moved.
func repoint(a *arena.Arena, moves []api.Move, to func(at int) int) {
	for _, o := range moves {
		h, _ := a.Head(o.From)
		for i := range h.Ptrs {
			held, _ := a.Ptr(o.From, i) // 0 for a word that is no address
			a.SetPtr(o.From, i, to(held))
		}
	}
}

// shift moves the words. None goes up, and all are taken by their addresses: so no word is written over that hasn't been moved.
func shift(a *arena.Arena, moves []api.Move) {
	for _, o := range moves {
		for i := range o.Words {
			a.SetWord(o.To+i, a.Word(o.From+i))
		}
	}
}

// cut lays each space's top behind what is left in it.
func cut(a *arena.Arena, m *marks.Map) {
	for space := api.SpaceEden; space <= api.SpaceTenured; space++ {
		first, behind := a.Bounds(space)
		a.Cut(space, first+m.Count(first, behind))
	}
}
