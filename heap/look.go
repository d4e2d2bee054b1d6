package heap

import (
	"iter"

	"midden/api"
	"midden/cell"
	"midden/policy"
)

// View tells what policy looks at, Limit the limit, Threshold the threshold.
func (p *parts) View() api.View {
	return api.View{
		EdenRoom:    p.arena.Free(api.SpaceEden),
		Young:       p.occupied(api.SpaceEden) + p.occupied(p.arena.From()),
		Tenured:     p.occupied(api.SpaceTenured),
		TenuredRoom: p.arena.Free(api.SpaceTenured),
	}
}

// viewOf tells the view of an allocation, for which there is room in its thread's buffer, too.
func (p *parts) viewOf(thread int) api.View {
	v := p.View()
	v.EdenRoom = p.buffers.Room(p.arena, thread)
	return v
}

func (p *parts) Limit() int { return policy.Limit(p.config(), p.base) }

func (p *parts) Threshold() int { return p.tenure.Threshold() }

// Objects gives a space's objects in order, with their headers.
func (p *parts) Objects(space int) iter.Seq2[int, api.Head] { return p.arena.Objects(space) }

// Fillers tells how many words of all spaces are fillers or open buffers' rests.
func (p *parts) Fillers() int {
	words := 0
	for space := api.SpaceEden; space <= api.SpaceTenured; space++ {
		words += p.occupied(space)
		for at := range p.arena.Objects(space) {
			words -= cell.Size(p.arena.Word(at))
		}
	}
	return words
}

// Check looks whether all is in order: no word out of place, no pointer to nothing, no tenured object forgotten.
func (p *parts) Check() bool {
	_, e := p.arena.Check()
	_, missing := p.remembered.Missing()
	return e == api.OK && !missing && p.occupied(p.arena.To()) == 0 && p.allLead()
}

// allLead tells whether roots, registry and pointer fields hold null and objects that are there alone.
func (p *parts) allLead() bool {
	there := p.unmarked()
	for at := range p.objects() {
		there.Set(at, 1)
	}
	leads := func(at int) bool { return at == 0 || there.Has(at) }
	for at, h := range p.objects() {
		for i := range h.Ptrs {
			if to, ok := p.arena.Ptr(at, i); !ok || !leads(to) {
				return false
			}
		}
	}
	for _, at := range p.entries() {
		if !leads(at) {
			return false
		}
	}
	return true
}

// entries tells what the roots and the registry hold.
func (p *parts) entries() []int { return append(p.roots.All(), p.registry.List()...) }
