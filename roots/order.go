package roots

// visit: what is done with a root that isn't null; what it answers is laid in the root's place.
type visit func(at int) int

// root is a visit of any root: null ones are passed by.
func (do visit) root(at int) int {
	if at == 0 {
		return 0
	}
	return do(at)
}

// list: the roots that were met.
type list struct{ met []int }

func (l *list) keep(at int) int {
	l.met = append(l.met, at)
	return at
}

// mover asks to where each root goes.
type mover struct{ to visit }

// move minds what to answers: it is an address that comes in.
func (m mover) move(at int) int { return address(m.to(at)) }

// each does something with all roots that aren't null. It alone knows their order.
func (r *Roots) each(do visit) {
	for _, t := range r.threads {
		for i, at := range t.slots {
			t.slots[i] = do.root(at)
		}
	}
	for i, h := range r.handles {
		r.handles[i].at = do.root(h.at) // one that isn't open holds null
	}
	r.queue.Map(do.root)
}

// All tells all roots that aren't null, in their order.
func (r *Roots) All() []int {
	var l list
	r.each(l.keep)
	return l.met
}

// Update lays to of each root that isn't null in its place, in their order.
func (r *Roots) Update(to func(at int) int) {
	r.each(mover{to}.move)
}
