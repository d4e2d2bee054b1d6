package cell

import "midden/api"

// headWords are what an object has ahead of its fields.
const headWords = 2

// kinds: which kinds there are, and how many pointer fields each needs.
var kinds = [...]struct {
	is   bool
	ptrs int
}{
	api.KindNone:  {is: false},
	api.Plain:     {is: true, ptrs: 0},
	api.Weak:      {is: true, ptrs: 1},
	api.Ephemeron: {is: true, ptrs: 2},
	api.Final:     {is: true, ptrs: 0},
}

// Pack tells a header's first word (its second is the serial).
func Pack(h api.Head) (uint64, api.Errno) {
	if e := fault(h); e != api.OK {
		return 0, e
	}
	return word(h), api.OK
}

// Unpack reads it, the serial left 0; false: it is no header.
func Unpack(meta uint64) (api.Head, bool) {
	if read(meta, partTag) != tagHead || read(meta, partRest) != 0 {
		return api.Head{}, false
	}
	h := head(meta)
	if fault(h) != api.OK {
		return api.Head{}, false
	}
	return h, true
}

// WithAge tells a header with another age; what is no header stays.
func WithAge(meta uint64, age int) uint64 {
	return changed(meta, func(h *api.Head) { h.Age = age })
}

// WithHeld tells a header that is held, or isn't; what is no header stays.
func WithHeld(meta uint64, is bool) uint64 {
	return changed(meta, func(h *api.Head) { h.Held = is })
}

// WithKind tells a header of another kind; what is no header stays.
func WithKind(meta uint64, kind int) uint64 {
	return changed(meta, func(h *api.Head) { h.Kind = kind })
}

// changed tells the word of a header that is told otherwise; the word itself, if it is no header or would be none.
func changed(meta uint64, change func(*api.Head)) uint64 {
	h, ok := Unpack(meta)
	if !ok {
		return meta
	}
	change(&h)
	if fault(h) != api.OK {
		return meta
	}
	return word(h)
}

// fault tells the first reason why a head may not be.
func fault(h api.Head) api.Errno {
	switch {
	case !known(h.Kind) || lacks(h.Kind, h.Ptrs):
		return api.ErrCellKind
	case !within(h.Ptrs, api.MaxPtrs):
		return api.ErrCellPtrs
	case !within(h.Raws, api.MaxRaws):
		return api.ErrCellRaws
	case !within(h.Age, api.MaxAge):
		return api.ErrCellAge
	case !within(h.Site, api.MaxSite):
		return api.ErrCellSite
	}
	return api.OK
}

func known(kind int) bool { return within(kind, len(kinds)-1) && kinds[kind].is }

// lacks tells whether a kind needs more pointer fields. One that needs none lacks none, even of a number below 0: that is the number's own fault.
func lacks(kind, ptrs int) bool { return kinds[kind].ptrs > 0 && ptrs < kinds[kind].ptrs }

func within(n, most int) bool { return n >= 0 && n <= most }

// word lays a head that may be.
func word(h api.Head) uint64 {
	held := 0
	if h.Held {
		held = 1
	}
	return lay(partTag, tagHead) |
		lay(partKind, h.Kind) |
		lay(partHeld, held) |
		lay(partAge, h.Age) |
		lay(partSite, h.Site) |
		lay(partPtrs, h.Ptrs) |
		lay(partRaws, h.Raws)
}

// head reads the parts of a word, whether a head with these may be or not.
func head(meta uint64) api.Head {
	return api.Head{
		Kind: read(meta, partKind),
		Held: read(meta, partHeld) == 1,
		Age:  read(meta, partAge),
		Site: read(meta, partSite),
		Ptrs: read(meta, partPtrs),
		Raws: read(meta, partRaws),
	}
}
