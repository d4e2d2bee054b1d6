package heap

import (
	"midden/api"
	"midden/policy"
)

// operation: one that is under way.
type operation struct {
	heap *Heap
	turn *policy.Turn
	view func() api.View // what the turn is told
}

// plain begins an operation that asks for no cycle and no room. No such turn is refused.
func (h *Heap) plain() *operation {
	o, _ := h.begin(api.TurnPlain, 0, h.View)
	return o
}

func (h *Heap) begin(kind, words int, view func() api.View) (*operation, api.Errno) {
	turn, e := policy.Begin(h.config(), h.base, kind, words)
	if e != api.OK {
		return nil, e
	}
	return &operation{heap: h, turn: turn, view: view}, api.OK
}

// next runs the cycles that the turn asks for now, and tells the first step that is none.
func (o *operation) next() int {
	for {
		switch step := o.turn.Next(o.view()); step {
		case api.StepMinor:
			o.heap.minor(api.CycleMinor)
		case api.StepAll:
			o.heap.minor(api.CycleAll)
		case api.StepMajor:
			o.heap.major()
		default:
			return step
		}
	}
}

// end is where every operation ends that has begun: behind what it is for, its turn is gone through to its end. One that is refused runs no cycle; that there is no room is told by the turn itself, and no refusal.
func (o *operation) end(r *api.Report, e *api.Errno) {
	if *e != api.OK && *e != api.ErrHeapMemory {
		return
	}
	o.next()
	o.heap.base = o.turn.Base(o.view())
	r.Cycles = o.turn.Cycles()
}
