package arena

import (
	"midden/api"
	"midden/cell"
)

// headWords are what an object has ahead of its fields.
const headWords = 2

// object: one that stands: its header, and its words.
type object struct {
	head  api.Head
	words []uint64
}

// object tells the one that stands at an address.
func (a *Arena) object(at int) (object, bool) {
	space := a.Space(at)
	if space == api.SpaceNone {
		return object{}, false
	}
	return a.below(a.Top(space), at)
}

// below tells the object that stands at an address of a space with that top. The walk asks so, for which what begins at the top is the next space's.
func (a *Arena) below(top, at int) (object, bool) {
	if at >= top {
		return object{}, false
	}
	h, ok := cell.Unpack(a.words[at])
	words := size(h)
	if !ok || words > top-at {
		return object{}, false
	}
	o := object{head: h, words: a.piece(at, words)}
	o.head.Serial = o.words[1]
	return o, true
}

func size(h api.Head) int { return headWords + h.Ptrs + h.Raws }

func (a *Arena) write(at int, meta, serial uint64) { a.words[at], a.words[at+1] = meta, serial }

// Put takes words for an object and writes its header, its fields 0.
func (a *Arena) Put(space int, h api.Head) (int, bool) {
	meta, e := cell.Pack(h)
	if e != api.OK {
		return 0, false
	}
	at, ok := a.Take(space, size(h))
	if !ok {
		return 0, false
	}
	a.write(at, meta, h.Serial)
	return at, true
}

// Fill makes so many words at a space's top a filler.
func (a *Arena) Fill(space, words int) bool {
	meta := cell.Filler(words)
	if meta == 0 {
		return false
	}
	at, ok := a.Take(space, words)
	if !ok {
		return false
	}
	a.words[at] = meta
	return true
}

// Head tells an object's header, SetHead writes it (its sizes stay).
func (a *Arena) Head(at int) (api.Head, bool) {
	o, ok := a.object(at)
	return o.head, ok
}

func (a *Arena) SetHead(at int, h api.Head) bool {
	meta, e := cell.Pack(h)
	o, ok := a.object(at)
	if !ok || e != api.OK || h.Ptrs != o.head.Ptrs || h.Raws != o.head.Raws {
		return false
	}
	a.write(at, meta, h.Serial)
	return true
}
