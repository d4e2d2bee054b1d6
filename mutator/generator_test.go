package mutator_test

import "midden/api"

// generator: dice that tell operations for what a model has come to; some of them are wrong.
type generator struct {
	d    *dice
	m    *model
	raws int // so many raw fields an object has at most, but for some
}

// config tells one of many: small spaces, buffers, several threads and workers.
func (d *dice) config() api.Config {
	eden := 64 + d.below(64)*d.below(3)
	den := 1 + d.below(3)
	return api.Config{
		Eden: eden, Survivor: 64 + d.below(64)*d.below(2), Tenured: 64 + d.below(300)*d.below(3),
		Large: d.of(2, 8, 20, 40, 64, 65536), Floor: d.of(0, 20, 50, 100, 65536), Num: den + d.below(4), Den: den,
		Target: 1 + d.below(100), MaxAge: 1 + d.below(4)*d.below(5), Threads: 1 + d.below(3), Slots: 4 + d.below(12), Handles: d.below(4),
		Buffer: d.of(0, 0, 10, 25, eden), Workers: 1 + d.below(8)*d.below(2),
	}
}

func (g *generator) op() api.Op {
	d, c := g.d, g.m.c
	thread := d.below(c.Threads)
	if d.below(60) == 0 {
		thread = d.of(-1, c.Threads)
	}
	slot, full, handle := g.slot(thread), g.full(thread), d.below(c.Handles+2)-1
	switch k := d.below(100); {
	case k < 2:
		return push(thread, 1+d.below(5)-d.below(20)/19)
	case k < 3:
		return pop(thread)
	case k < 35:
		return g.alloc(thread, slot)
	case k < 43:
		return load(thread, slot, full, g.field(thread, full, 0))
	case k < 63:
		return store(thread, full, g.field(thread, full, 0), d.of(-1, g.full(thread), g.full(thread), g.slot(thread)))
	case k < 67:
		return put(thread, full, g.field(thread, full, 1), d.word())
	case k < 70:
		return copied(thread, slot, d.of(-1, -2, g.slot(thread), g.full(thread)))
	case k < 73:
		return cleared(thread, slot)
	case k < 75:
		return opened(thread, slot)
	case k < 77:
		return fetch(thread, slot, handle)
	case k < 79:
		return closing(handle)
	case k < 81:
		return take(thread, slot)
	case k < 84:
		return minor()
	case k < 85:
		return promote()
	case k < 87:
		return major()
	}
	return g.question(thread, slot, full)
}

// question tells one of P19.3's.
func (g *generator) question(thread, slot, full int) api.Op {
	d := g.d
	switch d.below(10) {
	case 0:
		return get(thread, full, g.field(thread, full, 1))
	case 1:
		return same(thread, slot, d.of(slot, g.slot(thread), full))
	case 2:
		return hash(thread, full)
	case 3:
		return shape(thread, full)
	case 4:
		return counted()
	case 5:
		return audit()
	case 6:
		return sites()
	case 7:
		return dump()
	case 8:
		return retained(thread, full)
	}
	return path(thread, full)
}

// slot tells one of the thread's top frame; seldom none.
func (g *generator) slot(thread int) int {
	if g.d.below(40) == 0 {
		return g.d.of(-1, 5, 12)
	}
	return g.d.below(max(1, len(g.top(thread))))
}

// full tells one that holds an object, if it finds one.
func (g *generator) full(thread int) int {
	slot := g.slot(thread)
	for range 4 {
		if s, e := g.m.slot(thread, slot); e != api.OK || *s != 0 {
			break
		}
		slot = g.slot(thread)
	}
	return slot
}

func (g *generator) top(thread int) []uint64 {
	if !g.m.thread(thread) || len(g.m.frames[thread]) == 0 {
		return nil
	}
	return g.m.frames[thread][len(g.m.frames[thread])-1]
}

// field tells a pointer field (0) or a raw one (1) of a slot's object; seldom none.
func (g *generator) field(thread, slot, which int) int {
	s, e := g.m.slot(thread, slot)
	if e != api.OK || *s == 0 {
		return g.d.below(4)
	}
	x := g.m.things[*s]
	fields := []int{len(x.ptrs), len(x.raws)}[which]
	if fields == 0 || g.d.below(15) == 0 {
		return g.d.of(-1, fields)
	}
	return g.d.below(fields)
}

func (g *generator) alloc(thread, slot int) api.Op {
	d := g.d
	kind := d.of(1, 1, 1, 1, 2, 3, 3, 4)
	ptrs := d.below(4) + []int{0, 0, 1, 2, 0}[kind]
	raws := d.below(1 + g.raws)
	switch d.below(60) {
	case 0:
		kind = d.of(0, 5, -1)
	case 1:
		raws = d.of(-1, 65536, 65535, 60+d.below(200))
	case 2:
		raws = d.below(100)
	case 3:
		ptrs = d.of(-1, 0, 1, 4096)
	case 4, 5:
		// What is Kept and this fill the tenured space to its last word (P20.3).
		raws = max(0, g.m.c.Tenured-g.m.words(g.m.kept())-2-ptrs)
	}
	return alloc(thread, slot, kind, ptrs, raws, d.below(256)+d.below(50)/49)
}
