package heap

import (
	"midden/api"
	"midden/compact"
	"midden/marks"
	"midden/scavenge"
	"midden/weak"
)

// Cycle runs a forced cycle.
func (h *Heap) Cycle(cycle int) (r api.Report, e api.Errno) {
	o, e := h.begin(turnOf(cycle), 0, h.View)
	if e != api.OK {
		return r, e
	}
	defer o.end(&r, &e)
	return r, api.OK
}

func turnOf(cycle int) int {
	switch cycle {
	case api.CycleMinor:
		return api.TurnMinor
	case api.CycleAll:
		return api.TurnAll
	case api.CycleMajor:
		return api.TurnMajor
	}
	return api.TurnNone
}

// minor runs a minor cycle, or one that promotes all. It isn't refused: a turn asks for guaranteed ones alone.
func (p *parts) minor(cycle int) {
	p.buffers.Retire(p.arena)
	done, _ := scavenge.Run(p.arena, p.roots, p.remembered, p.registry.List(), p.tenure.Threshold(), cycle)
	gone := places(done.Registry)
	p.registry.Update(gone.next)
	p.tenure.Turn(done.Words)
}

// places: where the registry's objects have gone, in its order.
type places []int

func (l *places) next(int) int {
	to := (*l)[0]
	*l = (*l)[1:]
	return to
}

// major runs a major cycle.
func (p *parts) major() {
	p.buffers.Retire(p.arena)
	m := p.reached()
	queued, _, _ := weak.Settle(p.arena, m, p.registry, p.config().Workers)
	for _, at := range queued {
		p.roots.Enqueue(at)
	}
	compact.Slide(p.arena, m, p.roots.Update, p.registry.Update)
	p.remembered.Rebuild()
}

// reached marks what is in Reach.
func (p *parts) reached() *marks.Map {
	m := p.unmarked()
	weak.Reach(p.arena, m, p.roots.All(), p.config().Workers)
	return m
}
