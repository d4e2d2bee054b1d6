package weak

import (
	"iter"
	"slices"

	"midden/api"
	"midden/arena"
	"midden/marks"
)

// Registry: the Final objects that haven't been queued.
type Registry struct {
	arena *arena.Arena
	list  []int
	in    *marks.Map // a mark at each of the list's addresses
}

// New makes an empty one of an arena. (marks takes every number of words that an arena may have.)
func New(a *arena.Arena) *Registry {
	_, words := a.Bounds(api.SpaceTenured)
	in, _ := marks.New(words)
	return &Registry{arena: a, in: in}
}

// Add lays an object at the end.
func (r *Registry) Add(at int) api.Errno {
	// Where no object stands the kind is KindNone.
	if h, _ := r.arena.Head(at); h.Kind != api.Final {
		return api.ErrWeakKind
	}
	if r.in.Has(at) {
		return api.ErrWeakTwice
	}
	r.list = append(r.list, at)
	r.in.Set(at, 1)
	return api.OK
}

// All gives them, in order: those that are there when one begins. (What is in the list is never overwritten: it gets longer, or there is a new one.)
func (r *Registry) All() iter.Seq[int] {
	return func(yield func(int) bool) {
		for _, at := range r.list {
			if !yield(at) {
				return
			}
		}
	}
}

// List tells them.
func (r *Registry) List() []int { return slices.Clone(r.list) }

// Update lays to of each in its place.
func (r *Registry) Update(to func(at int) int) {
	var now []int
	for at := range r.All() {
		now = append(now, to(at))
	}
	r.lay(now)
}

// lay makes a list the registry's. (What is no word of the array can't be added: it needs no mark.)
func (r *Registry) lay(list []int) {
	r.list = list
	r.in.Clear()
	for _, at := range list {
		r.in.Set(at, 1)
	}
}

// queue takes out, and tells in order, those that aren't marked when their turn comes. What one of them reaches is marked ahead of the next one's turn.
func (r *Registry) queue(a *arena.Arena, m *marks.Map, reach marker) []int {
	var queued, kept []int
	for at := range r.All() {
		if m.Has(at) {
			kept = append(kept, at)
		} else if makePlain(a, at) {
			queued = append(queued, at)
			reach([]int{at})
		}
	}
	r.lay(kept)
	return queued
}

// makePlain makes an object's kind Plain; false, if none stands there.
func makePlain(a *arena.Arena, at int) bool {
	h, ok := a.Head(at)
	h.Kind = api.Plain
	return ok && a.SetHead(at, h)
}
