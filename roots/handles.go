package roots

import (
	"slices"

	"midden/api"
)

// handle: an open one may hold null, so what it holds doesn't tell whether it is open.
// One that isn't open is the zero value.
type handle struct {
	open bool
	at   int
}

// told is what Handles tells of it.
func (h handle) told() int {
	if h == (handle{}) {
		return -1
	}
	return h.at
}

// Open makes the least handle that isn't open hold an address; Handle tells it; Close closes it.
func (r *Roots) Open(at int) (int, api.Errno) {
	h := slices.Index(r.handles, handle{})
	if h < 0 {
		return 0, api.ErrRootsHandles
	}
	r.handles[h] = handle{open: true, at: address(at)}
	return h, api.OK
}

func (r *Roots) Handle(h int) (int, api.Errno) {
	if !r.isOpen(h) {
		return 0, api.ErrRootsHandle
	}
	return r.handles[h].at, api.OK
}

func (r *Roots) Close(h int) api.Errno {
	if !r.isOpen(h) {
		return api.ErrRootsHandle
	}
	r.handles[h] = handle{}
	return api.OK
}

func (r *Roots) isOpen(h int) bool {
	return within(h, 0, len(r.handles)-1) && r.handles[h].open
}

// Handles tells all handles by number; -1: it isn't open.
func (r *Roots) Handles() []int {
	list := make([]int, 0, len(r.handles))
	for _, h := range r.handles {
		list = append(list, h.told())
	}
	return list
}
