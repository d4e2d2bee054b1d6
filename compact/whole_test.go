package compact_test

import (
	"fmt"
	"slices"
	"testing"

	"midden/api"
	"midden/arena"
	"midden/cell"
	"midden/compact"
)

// dice: numbers that look like chance and are the same at every run.
type dice uint64

func (d *dice) word() uint64 {
	*d += 0x9e3779b97f4a7c15
	x := uint64(*d)
	x = (x ^ x>>30) * 0xbf58476d1ce4e5b9
	x = (x ^ x>>27) * 0x94d049bb133111eb
	return x ^ x>>31
}

func (d *dice) below(n int) int { return int(d.word() % uint64(n)) }

func (d *dice) head() api.Head {
	kind := []int{api.Plain, api.Weak, api.Ephemeron, api.Final}[d.below(4)]
	least := map[int]int{api.Weak: 1, api.Ephemeron: 2}[kind]
	return api.Head{Serial: d.word() >> d.below(64), Kind: kind, Ptrs: least + d.below(3), Raws: d.below(4), Age: d.below(16), Site: d.below(256), Held: d.below(2) == 0}
}

// memory lays objects and fillers in all spaces, with raw fields that look like anything, and points the objects at one another. All objects are told.
func (d *dice) memory(t *testing.T, c api.Config) (*memory, []int) {
	t.Helper()
	x := made(t, c)
	var ats []int
	for _, space := range all {
		for x.a.Free(space) >= 10 && d.below(40) > 0 {
			if d.below(6) == 0 {
				x.fill(t, space, 1+d.below(4))
				continue
			}
			h := d.head()
			at := x.put(t, space, h)
			for i := range h.Raws {
				x.a.SetRaw(at, i, d.any(x.a))
			}
			ats = append(ats, at)
		}
	}
	for _, at := range ats {
		h, _ := x.a.Head(at)
		for i := range h.Ptrs {
			if d.below(5) > 0 {
				x.a.SetPtr(at, i, ats[d.below(len(ats))])
			}
		}
	}
	if d.below(2) == 0 {
		x.a.Swap()
	}
	return x, ats
}

// any tells a word of any form.
func (d *dice) any(a *arena.Arena) uint64 {
	meta, _ := cell.Pack(d.head())
	at := d.below(wordsIn(a) + 3)
	return []uint64{meta, cell.Filler(1 + d.below(3)), cell.Forward(at), uint64(at), d.word(), 0}[d.below(6)]
}

// litter writes anything into some pointer fields.
func (d *dice) litter(x *memory, ats []int) {
	for _, at := range ats {
		h, _ := x.a.Head(at)
		for i := range h.Ptrs {
			if d.below(5) == 0 {
				x.a.SetWord(at+2+i, d.any(x.a))
			}
		}
	}
}

// some tells some of these, in their order.
func (d *dice) some(ats []int) []int {
	var l []int
	share := d.below(11)
	for _, at := range ats {
		if d.below(10) < share {
			l = append(l, at)
		}
	}
	return l
}

// model: P11.2 and P11.3, word for word, over a list of words.
type model struct {
	moves []api.Move
	goals map[int]int
	words map[int]uint64 // what lies below the tops
	tops  []int
}

func modelled(a *arena.Arena, marked []int) model {
	m := model{goals: map[int]int{}, words: map[int]uint64{}}
	for _, space := range all {
		top, _ := a.Bounds(space)
		for _, at := range marked {
			if a.Space(at) != space {
				continue
			}
			m.moves = append(m.moves, api.Move{From: at, To: top, Words: size(a, at)})
			m.goals[at] = top
			top += size(a, at)
		}
		m.tops = append(m.tops, top)
	}
	for _, o := range m.moves {
		h, _ := a.Head(o.From)
		for i := range o.Words {
			w := a.Word(o.From + i)
			if i >= 2 && i < 2+h.Ptrs {
				w = m.held(w)
			}
			m.words[o.To+i] = w
		}
	}
	return m
}

// held tells what a pointer field holds that held w.
func (m model) held(w uint64) uint64 {
	for from, to := range m.goals {
		if uint64(from) == w {
			return uint64(to)
		}
	}
	return 0
}

// same holds a memory to the model.
func (m model) same(t *testing.T, x *memory) {
	t.Helper()
	x.tops(t, m.tops...)
	for i, space := range all {
		first, _ := x.a.Bounds(space)
		for at := first; at < m.tops[i]; at++ {
			if x.a.Word(at) != m.words[at] {
				t.Errorf("P11.3: the word %d is %d, want %d", at, x.a.Word(at), m.words[at])
			}
		}
	}
}

// TestModel: many memories, each slid again and again with other marks.
func TestModel(t *testing.T) {
	moved, stayed, gone := 0, 0, 0
	for seed := range 400 {
		d := dice(seed)
		x, ats := d.memory(t, sized(64+d.below(200), 64+d.below(60), 64+d.below(200)))
		from := x.a.From()
		for range 4 {
			d.litter(x, ats)
			marked := d.some(ats)
			x = x.anew(t, marked...)
			m := modelled(x.a, marked)
			x.plan(t, m.moves...)
			to := x.slide(t)
			m.same(t, x)
			goes(t, to, wordsIn(x.a), m.goals)
			want(t, "P11.3: the from space", x.a.From(), from)
			x.settled(t, m.moves)
			for _, o := range m.moves {
				if o.From != o.To {
					moved++
				} else {
					stayed++
				}
			}
			gone += len(ats) - len(marked)
			ats = ats[:0:0]
			for _, o := range m.moves {
				ats = append(ats, o.To)
			}
			if t.Failed() {
				t.Fatalf("seed %d", seed)
			}
		}
	}
	if moved < 2000 || stayed < 2000 || gone < 2000 {
		t.Errorf("the memories are too poor: %d moved, %d stayed, %d gone", moved, stayed, gone)
	}
}

// settled: P11.5's and P11.7's words, of a memory that has been slid by these moves.
func (x *memory) settled(t *testing.T, moves []api.Move) {
	t.Helper()
	words := map[int]int{}
	var anew []int
	for i, o := range moves {
		space := x.a.Space(o.From)
		if o.To > o.From || x.a.Space(o.To) != space || i > 0 && o.To <= moves[i-1].To {
			t.Errorf("P11.5: %v goes up, to another space, or ahead of another", o)
		}
		words[space] += o.Words
		anew = append(anew, o.To)
	}
	for _, space := range all {
		first, _ := x.a.Bounds(space)
		n := 0
		for at := range x.a.Objects(space) {
			n += size(x.a, at)
		}
		want(t, "P11.5: occupancy, and words of the objects", []int{x.a.Top(space) - first, n}, []int{words[space], words[space]})
	}
	if at, e := x.a.Check(); e != api.OK {
		t.Errorf("P11.5: the walk fails at %d", at)
	}
	y := x.anew(t, anew...)
	was := y.told()
	for _, o := range y.moves(t) {
		if o.From != o.To {
			t.Errorf("P11.7: %v moves again", o)
		}
	}
	y.slide(t)
	want(t, "P11.7: what there is", y.told(), was)
}

// graph tells what is reached from these through all pointer fields: each object by its number in the order in which it is met.
func graph(a *arena.Arena, from []int) (string, []int) {
	number := map[int]int{0: 0}
	var met []int
	meet := func(at int) int {
		if _, ok := number[at]; !ok {
			met = append(met, at)
			number[at] = len(met)
		}
		return number[at]
	}
	var told []string
	for _, at := range from {
		told = append(told, fmt.Sprint(meet(at)))
	}
	for i := 0; i < len(met); i++ {
		h, ok := a.Head(met[i])
		told = append(told, fmt.Sprint("| ", h, ok))
		for k := range h.Ptrs {
			to, ok := a.Ptr(met[i], k)
			told = append(told, fmt.Sprint(meet(to), ok))
		}
		for k := range h.Raws {
			w, _ := a.Raw(met[i], k)
			told = append(told, fmt.Sprint(w))
		}
	}
	return fmt.Sprint(told), met
}

// TestGraph: what is reached is the same, from the same objects.
func TestGraph(t *testing.T) {
	reached := 0
	for seed := range 200 {
		d := dice(9000 + seed)
		x, ats := d.memory(t, sized(64+d.below(100), 64+d.below(60), 64+d.below(100)))
		var from []int
		for range d.below(5) {
			if len(ats) > 0 {
				from = append(from, ats[d.below(len(ats))])
			}
		}
		was, met := graph(x.a, from)
		held := slices.Clone(from)
		x.mark(met...)
		e := compact.Slide(x.a, x.m, nil, func(to func(at int) int) {
			for i, at := range held {
				held[i] = to(at)
			}
		})
		now, _ := graph(x.a, held)
		want(t, "P11.6: the graph", now, was)
		want(t, "P11.6: error", e, api.OK)
		reached += len(met)
	}
	if reached < 1000 {
		t.Errorf("the memories are too poor: %d objects are reached", reached)
	}
}

// TestGreatest: a great arena, full of objects of which each second one goes, and all hold one another.
func TestGreatest(t *testing.T) {
	x := made(t, sized(api.MaxSpace, api.MaxSpace, api.MaxSpace))
	var ats []int
	for _, space := range all {
		last := 0
		for i := 0; x.a.Free(space) >= 4; i++ {
			if at := x.lay(t, space, 1, last); i%2 == 1 {
				ats = append(ats, at)
				last = at
			}
		}
	}
	to := x.mark(ats...).slide(t)
	x.tops(t, 1+32768, 1+65536+32768, 1+2*65536+32768, 1+3*65536+32768)
	for i, at := range ats {
		first, _ := x.a.Bounds(x.a.Space(at))
		here := first + i%8192*4
		held, _ := x.a.Ptr(here, 0)
		if to(at) != here || i%8192 > 0 && held != here-4 || i%8192 == 0 && held != 0 {
			t.Fatalf("P11.3: the object at %d goes to %d, want %d, and holds %d", at, to(at), here, held)
		}
	}
	long := made(t, sized(64, 64, api.MaxSpace))
	long.lay(t, api.SpaceTenured, 0)
	at := long.lay(t, api.SpaceTenured, api.MaxSpace-2-2-api.MaxPtrs, make([]int, api.MaxPtrs)...)
	long.mark(at).slide(t)
	long.tops(t, 1, 65, 129, 193+api.MaxSpace-2)
}

// TestAnyWords: memories that aren't sound, with any marks: both calls end and tell the same error, P11.1's.
func TestAnyWords(t *testing.T) {
	met := map[api.Errno]int{}
	for seed := range 600 {
		d := dice(40000 + seed)
		x, ats := d.memory(t, small())
		x.mark(d.some(ats)...)
		for range d.below(6) {
			x.a.SetWord(1+d.below(292), d.any(x.a))
		}
		for range d.below(2) {
			x.m.Set(d.below(293), 1)
		}
		e := x.due()
		met[e]++
		if e != api.OK {
			x.refused(t, fmt.Sprintf("seed %d", seed), e)
			continue
		}
		x.settled(t, slideByPlan(t, x))
	}
	if met[api.OK] < 20 || met[api.ErrArenaWalk] < 20 || met[api.ErrCompactMarks] < 20 {
		t.Errorf("the memories are too poor: %v", met)
	}
}

func slideByPlan(t *testing.T, x *memory) []api.Move {
	t.Helper()
	moves := x.moves(t)
	x.slide(t)
	return moves
}

// due: P11.1, word for word.
func (x *memory) due() api.Errno {
	if _, e := x.a.Check(); e != api.OK {
		return e
	}
	left := wordsMarked(x.m)
	for _, space := range all {
		for at := range x.a.Objects(space) {
			behind := at + size(x.a, at)
			inside := slices.DeleteFunc(slices.Clone(left), func(w int) bool { return w < at || w >= behind })
			if len(inside) != 0 && len(inside) != behind-at {
				return api.ErrCompactMarks
			}
			left = slices.DeleteFunc(left, func(w int) bool { return w >= at && w < behind })
		}
	}
	if len(left) != 0 {
		return api.ErrCompactMarks
	}
	return api.OK
}
