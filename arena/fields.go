package arena

// ptrs tells the pointer fields of the object that stands at an address, without the raw ones behind them; none, if no object does.
func (a *Arena) ptrs(at int) []uint64 {
	o, ok := a.object(at)
	if !ok {
		return nil
	}
	behind := headWords + o.head.Ptrs
	return o.words[headWords:behind:behind]
}

// raws tells the raw fields in the same way.
func (a *Arena) raws(at int) []uint64 {
	o, ok := a.object(at)
	if !ok {
		return nil
	}
	return o.words[headWords+o.head.Ptrs:]
}

// Ptr tells a pointer field, SetPtr writes it; Raw, SetRaw a raw field.
func (a *Arena) Ptr(at, i int) (int, bool) {
	ptrs := a.ptrs(at)
	if !has(ptrs, i) || ptrs[i] >= uint64(len(a.words)) {
		return 0, false
	}
	return int(ptrs[i]), true
}

func (a *Arena) SetPtr(at, i, to int) bool {
	if !has(a.words, to) {
		return false
	}
	return set(a.ptrs(at), i, uint64(to))
}

func (a *Arena) Raw(at, i int) (uint64, bool) {
	raws := a.raws(at)
	if !has(raws, i) {
		return 0, false
	}
	return raws[i], true
}

func (a *Arena) SetRaw(at, i int, w uint64) bool { return set(a.raws(at), i, w) }
