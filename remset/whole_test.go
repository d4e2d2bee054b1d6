package remset_test

import (
	"fmt"
	"slices"
	"testing"

	"midden/api"
	"midden/arena"
	"midden/cell"
	"midden/remset"
)

// TestModel: long lives over sound arenas, held against the chapter word for word.
func TestModel(t *testing.T) {
	d := dice(6)
	for range 60 {
		a, s := made(t, small())
		b, _ := made(t, small())
		m := &model{a: b}
		for range 200 {
			if d.below(3) == 0 {
				lay(a, b, &d)
			} else {
				step(t, s, m, &d, objects(a))
			}
			if got, held := told(a, s), m.told(); got != held {
				t.Fatalf("P6.1 to P6.6: %s, want %s", got, held)
			}
		}
	}
}

// TestModelOfAnyWords: the same over words that may be anything: objects overlap, walks fail.
func TestModelOfAnyWords(t *testing.T) {
	d := dice(66)
	for range 150 {
		a, s := made(t, small())
		b, _ := made(t, small())
		m := &model{a: b}
		scatter(a, b, &d)
		for range 60 {
			step(t, s, m, &d, nil)
			if d.below(4) == 0 {
				at, w := 1+d.below(words), anyWord(&d)
				a.SetWord(at, w)
				b.SetWord(at, w)
			}
			if got, held := told(a, s), m.told(); got != held {
				t.Fatalf("P6.1 to P6.6: %s, want %s", got, held)
			}
		}
	}
}

// lay does to two arenas what a Set isn't told of.
func lay(a, b *arena.Arena, d *dice) {
	space, h, n := all[d.below(4)], d.head(), 1+d.below(4)
	switch d.below(12) {
	case 0:
		a.Swap()
		b.Swap()
	case 1:
		a.Fill(space, n)
		b.Fill(space, n)
	case 2:
		first, _ := a.Bounds(space)
		a.Cut(space, first)
		b.Cut(space, first)
	default:
		a.Put(space, h)
		b.Put(space, h)
	}
}

// scatter takes some words of each space and writes anything into them.
func scatter(a, b *arena.Arena, d *dice) {
	for _, space := range all {
		n := 1 + d.below(a.Free(space))
		a.Take(space, n)
		b.Take(space, n)
	}
	for at := 1; at < words; at++ {
		w := anyWord(d)
		a.SetWord(at, w)
		b.SetWord(at, w)
	}
}

// anyWord tells mostly words that are headers, fillers or addresses, some of them both.
func anyWord(d *dice) uint64 {
	meta, _ := cell.Pack(d.head())
	return []uint64{meta, meta, cell.Filler(1 + d.below(3)), uint64(d.below(words)), uint64(d.below(words)), 5, 37, d.word()}[d.below(8)]
}

// step does one thing to a Set and to the model, mostly at these addresses.
func step(t *testing.T, s *remset.Set, m *model, d *dice, ats []int) {
	t.Helper()
	switch d.below(8) {
	case 0:
		var more []int
		for range d.below(6) {
			more = append(more, pick(d, ats))
		}
		s.Prune(more...)
		m.prune(more)
	case 1:
		s.Rebuild()
		m.rebuild()
	default:
		at, i, to := pick(d, ats), d.below(6)-1, pick(d, ats)
		if d.below(4) == 0 {
			to = 0
		}
		if got, held := s.Store(at, i, to), m.store(at, i, to); got != held {
			t.Fatalf("P6.2: Store(%d, %d, %d) = %d, want %d", at, i, to, got, held)
		}
	}
}

func pick(d *dice, ats []int) int {
	if len(ats) == 0 || d.below(8) == 0 {
		return d.below(words+10) - 5
	}
	return ats[d.below(len(ats))]
}

// objects tells where the walks meet one.
func objects(a *arena.Arena) []int {
	var l []int
	for _, space := range all {
		for at := range a.Objects(space) {
			l = append(l, at)
		}
	}
	return l
}

// world: a memory whose pointers are written by Store alone, and its roots.
type world struct {
	a     *arena.Arena
	s     *remset.Set
	roots [4]int
}

// TestNothingIsEverMissing: P6.7, over many small cycles.
func TestNothingIsEverMissing(t *testing.T) {
	d := dice(7)
	cycles, promoted, listed := 0, 0, 0
	for range 40 {
		a, s := made(t, small())
		w := &world{a: a, s: s}
		for range 400 {
			switch d.below(10) {
			case 0, 1, 2:
				w.make(&d)
			case 3:
				promoted += w.cycle(&d)
				cycles++
			default:
				w.write(t, &d)
			}
			w.check(t)
			if listed += len(s.List()); d.below(10) == 0 {
				renewed(t, a, s)
			}
		}
	}
	if cycles < 100 || promoted < 100 || listed < 1000 {
		t.Errorf("the worlds are too poor: %d cycles, %d promoted, %d in the lists", cycles, promoted, listed)
	}
}

// make lays an object in eden or the tenured space, and holds it by a root.
func (w *world) make(d *dice) {
	h := d.head()
	h.Held = false
	if at, ok := w.a.Put([]int{api.SpaceEden, api.SpaceEden, api.SpaceTenured}[d.below(3)], h); ok {
		w.roots[d.below(len(w.roots))] = at
	}
}

// write stores into a field of any object that is reached.
func (w *world) write(t *testing.T, d *dice) {
	t.Helper()
	met := reached(w.a, w.roots[:], func(int) bool { return true })
	if len(met) == 0 {
		return
	}
	at, to := met[d.below(len(met))], met[d.below(len(met))]
	h, _ := w.a.Head(at)
	if h.Ptrs == 0 {
		return
	}
	if d.below(4) == 0 {
		to = 0
	}
	store(t, w.s, at, d.below(h.Ptrs), to, api.OK)
}

// cycle copies the young objects that are reached from the roots and the list to the to space or the tenured space; it tells how many it promoted.
func (w *world) cycle(d *dice) int {
	young := w.youngReached()
	to := map[int]int{}
	var promoted []int
	for _, at := range young {
		h, _ := w.a.Head(at)
		h.Held = false
		space := []int{w.a.To(), api.SpaceTenured}[d.below(2)]
		copied, ok := w.a.Put(space, h)
		if !ok {
			return w.undo(promoted)
		}
		if to[at] = copied; space == api.SpaceTenured {
			promoted = append(promoted, copied)
		}
	}
	w.move(young, to)
	for _, space := range []int{api.SpaceEden, w.a.From()} {
		first, _ := w.a.Bounds(space)
		w.a.Cut(space, first)
	}
	w.a.Swap()
	if d.below(3) == 0 {
		w.s.Rebuild()
	} else {
		w.s.Prune(promoted...)
	}
	return len(promoted)
}

// undo gives up a cycle that found no room.
func (w *world) undo(promoted []int) int {
	first, _ := w.a.Bounds(w.a.To())
	w.a.Cut(w.a.To(), first)
	if len(promoted) > 0 {
		w.a.Cut(api.SpaceTenured, promoted[0])
	}
	return 0
}

// move makes roots and fields lead to the copies.
func (w *world) move(young []int, to map[int]int) {
	for i, at := range w.roots {
		if n, ok := to[at]; ok {
			w.roots[i] = n
		}
	}
	for _, at := range w.s.List() {
		for i, p := range fields(w.a, at) {
			if n, ok := to[p]; ok {
				w.s.Store(at, i, n)
			}
		}
	}
	for _, at := range young {
		for i, p := range fields(w.a, at) {
			if n, ok := to[p]; ok {
				p = n
			}
			w.s.Store(to[at], i, p)
		}
	}
}

// youngReached: who goes through young objects alone, from the roots and the list's fields.
func (w *world) youngReached() []int {
	first := slices.Clone(w.roots[:])
	for _, at := range w.s.List() {
		first = append(first, fields(w.a, at)...)
	}
	return reached(w.a, first, w.a.Young)
}

func (w *world) check(t *testing.T) {
	t.Helper()
	if at, ok := w.s.Missing(); ok {
		t.Fatalf("P6.7: %d is missing", at)
	}
	met := w.youngReached()
	for _, at := range reached(w.a, slices.Concat(w.roots[:], inTenured(w.a)), func(int) bool { return true }) {
		if w.a.Young(at) && !slices.Contains(met, at) {
			t.Fatalf("P6.7: %d is reached, and isn't met", at)
		}
	}
}

// renewed: P6.8, of a twin: Rebuild gives what Prune gives, by address, and both rest.
func renewed(t *testing.T, a *arena.Arena, s *remset.Set) {
	t.Helper()
	b, pruned := twin(t, a, s)
	pruned.Prune()
	once := told(b, pruned)
	pruned.Prune()
	want(t, "P6.8: a Prune behind a Prune", told(b, pruned), once)
	c, rebuilt := twin(t, a, s)
	rebuilt.Rebuild()
	once = told(c, rebuilt)
	rebuilt.Rebuild()
	want(t, "P6.8: a Rebuild behind a Rebuild", told(c, rebuilt), once)
	want(t, "P6.8: Rebuild", rebuilt.List(), slices.Sorted(slices.Values(pruned.List())))
	want(t, "P6.4, P6.5: Held", [][]int{heldAt(b), heldAt(c)}, [][]int{rebuilt.List(), rebuilt.List()})
}

// twin tells an arena with the same words, and a Set with the same list.
func twin(t *testing.T, a *arena.Arena, s *remset.Set) (*arena.Arena, *remset.Set) {
	t.Helper()
	b, r := made(t, a.Config())
	young := plain(t, b, api.SpaceEden, 0)[0]
	b.Take(api.SpaceTenured, b.Free(api.SpaceTenured))
	for _, at := range s.List() {
		meta, _ := cell.Pack(api.Head{Kind: api.Plain, Ptrs: 1})
		b.SetWord(at, meta)
		store(t, r, at, 0, young, api.OK)
		for i := range 3 {
			b.SetWord(at+i, 0)
		}
	}
	for _, space := range all {
		first, _ := b.Bounds(space)
		b.Cut(space, first)
		b.Take(space, a.Top(space)-first)
	}
	for at := range words {
		b.SetWord(at, a.Word(at))
	}
	if a.From() != b.From() {
		b.Swap()
	}
	if fmt.Sprint(image(b), r.List()) != fmt.Sprint(image(a), s.List()) {
		t.Fatal("the twin isn't one")
	}
	return b, r
}

func fields(a *arena.Arena, at int) []int {
	h, _ := a.Head(at)
	l := make([]int, h.Ptrs)
	for i := range l {
		l[i], _ = a.Ptr(at, i)
	}
	return l
}

func inTenured(a *arena.Arena) []int {
	var l []int
	for at := range a.Objects(api.SpaceTenured) {
		l = append(l, at)
	}
	return l
}

// reached tells the objects that come from some addresses, through all pointer fields of those that may be gone through.
func reached(a *arena.Arena, first []int, may func(int) bool) []int {
	var l []int
	met := map[int]bool{0: true}
	for wait := slices.Clone(first); len(wait) > 0; wait = wait[1:] {
		if at := wait[0]; !met[at] && may(at) {
			met[at] = true
			l = append(l, at)
			wait = append(wait, fields(a, at)...)
		}
	}
	return l
}
