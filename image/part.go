package image

import "midden/api"

// part: what stands of a graph in its bytes. It points into the graph, so that one description serves who writes and who reads; they tell the parts apart by a type switch.
type part interface {
	isPart()
}

// number is a whole number as it is, handle one that is written plus 1, raw a word of any size.
type number struct{ at *int }
type handle struct{ at *int }
type raw struct{ at *uint64 }

// serial is written less the one ahead.
type serial struct {
	at    *uint64
	ahead uint64
}

// list: parts of one kind, behind how many there are.
type list struct {
	count int
	each  func(i int) part
	grow  func() // lays an empty thing behind the last one
}

// group: parts of any kinds, one behind the other.
type group []part

func (number) isPart() {}
func (handle) isPart() {}
func (raw) isPart()    {}
func (serial) isPart() {}
func (list) isPart()   {}
func (group) isPart()  {}

// partsOf tells all that is written of a graph; the registry isn't, for the objects tell it.
func partsOf(g *api.Graph) part {
	return group{
		serial{at: &g.Next},
		listOf(&g.Objects, func(i int) part { return object(g.Objects, i) }),
		listOf(&g.Slots, func(i int) part { return frames(&g.Slots[i]) }),
		listOf(&g.Handles, func(i int) part { return handle{&g.Handles[i]} }),
		numbers(&g.Queue),
	}
}

func object(all []api.Object, i int) part {
	o := &all[i]
	ahead := uint64(0)
	if i > 0 {
		ahead = all[i-1].Serial
	}
	return group{
		serial{&o.Serial, ahead},
		number{&o.Kind},
		number{&o.Site},
		numbers(&o.Ptrs),
		listOf(&o.Raws, func(i int) part { return raw{&o.Raws[i]} }),
	}
}

func frames(of *[][]int) part {
	return listOf(of, func(i int) part { return numbers(&(*of)[i]) })
}

func numbers(of *[]int) part {
	return listOf(of, func(i int) part { return number{&(*of)[i]} })
}

func listOf[T any](of *[]T, each func(i int) part) part {
	return list{
		count: len(*of),
		each:  each,
		grow: func() {
			var empty T
			*of = append(*of, empty)
		},
	}
}
