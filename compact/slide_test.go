package compact_test

import (
	"fmt"
	"slices"
	"sync"
	"testing"

	"midden/api"
	"midden/cell"
	"midden/compact"
)

// moves tells what Plan answers.
func (x *memory) moves(t *testing.T) []api.Move {
	t.Helper()
	list, e := compact.Plan(x.a, x.m)
	if e != api.OK {
		t.Fatalf("P11.2: Plan: error %d", e)
	}
	return list
}

// row lays three objects, of 2, 3 and 4 words, in each space, with fillers between them.
func row(t *testing.T) *memory {
	t.Helper()
	x := made(t, small())
	for _, space := range all {
		for raws := range 3 {
			x.fill(t, space, 1)
			x.lay(t, space, raws)
		}
	}
	return x
}

func TestPlanGoesSpaceBySpace(t *testing.T) {
	x := row(t).mark(201, 194, 137, 73, 66, 5, 2)
	was := x.told()
	x.plan(t, []api.Move{{From: 2, To: 1, Words: 2}, {From: 5, To: 3, Words: 3}, {From: 66, To: 65, Words: 2}, {From: 73, To: 67, Words: 4},
		{From: 137, To: 129, Words: 4}, {From: 194, To: 193, Words: 2}, {From: 201, To: 195, Words: 4}}...)
	want(t, "P11.2: Plan changes nothing", x.told(), was)
}

// Plan's list is the caller's: with its spare room.
func TestPlanAnswersNewMemory(t *testing.T) {
	x := example(t).mark(1, 9, 196)
	first, second := x.moves(t), x.moves(t)
	clear(first[:cap(first)])
	x.plan(t, second...)
	want(t, "rule 3", second, "[{1 1 4} {9 5 3} {196 193 2}]")
}

// Both survivor spaces slide, whichever is the from space; it stays so.
func TestFromSpaceStays(t *testing.T) {
	for _, from := range []int{api.SpaceA, api.SpaceB} {
		x := row(t).mark(73, 133)
		if x.a.From() != from {
			x.a.Swap()
		}
		x.slide(t)
		want(t, "P11.3: the from space", x.a.From(), from)
		x.tops(t, 1, 69, 132, 193)
	}
}

// Headers and raw fields stay: all their bits.
func TestHeadersAndRawsStay(t *testing.T) {
	for _, space := range all {
		x := made(t, small())
		x.fill(t, space, 7)
		var ats []int
		var heads []api.Head
		for kind := api.Plain; kind <= api.Final; kind++ {
			h := api.Head{Serial: ^uint64(kind), Kind: kind, Ptrs: 2, Raws: 3, Age: 15 - kind, Site: 255 - kind, Held: kind%2 == 0}
			at := x.put(t, space, h)
			for i, w := range []uint64{1<<64 - 1, uint64(at), cell.Forward(at)} {
				x.a.SetRaw(at, i, w)
			}
			ats, heads = append(ats, at), append(heads, h)
		}
		x.mark(ats[1:]...)
		to := x.slide(t)
		for i, at := range ats[1:] {
			h, ok := x.a.Head(to(at))
			want(t, "P11.3: the header", []any{h, ok}, []any{heads[i+1], true})
			for k, w := range []uint64{1<<64 - 1, uint64(at), cell.Forward(at)} {
				got, ok := x.a.Raw(to(at), k)
				want(t, "P11.3: a raw field", []any{got, ok}, []any{w, true})
			}
		}
	}
}

// What a pointer field holds that isn't a marked object's address becomes 0, in a field of each kind's.
func TestFieldsThatHoldSomethingElse(t *testing.T) {
	words := []uint64{0, 2, 3, 4, 5, 6, 12, 13, 14, 15, 64, 65, 128, 130, 135, 192, 193, 194, 195, 197, 198, 292, 293, 294, 1 << 20, 1<<32 + 1, 1 << 40, 1<<63 + 9, 1<<64 - 1, 1<<64 - 9}
	for kind := api.Plain; kind <= api.Final; kind++ {
		for _, word := range words {
			x := example(t)
			at := x.put(t, api.SpaceB, api.Head{Kind: kind, Ptrs: 4})
			for i, w := range []uint64{word, word, 196, word} {
				x.a.SetWord(at+2+i, w)
			}
			x.mark(1, 9, 196, at).slide(t)
			for i, w := range []uint64{0, 0, 193, 0} {
				want(t, fmt.Sprintf("P11.3: field %d of kind %d, which held %d", i, kind, word), x.a.Word(at+2+i), w)
			}
		}
	}
}

// Pointers up, down, to oneself, and from space to space follow.
func TestPointersFollow(t *testing.T) {
	x := row(t)
	var ats []int
	for _, space := range all {
		first, _ := x.a.Bounds(space)
		ats = append(ats, first+1, x.lay(t, space, 1, 0, 0, 0, 0, 0))
	}
	for i, at := range ats {
		if i%2 == 0 {
			continue
		}
		for k, j := range []int{i, 0, 2, 5, 7} {
			x.a.SetPtr(at, k, ats[j])
		}
	}
	x.mark(ats...)
	to := x.slide(t)
	want(t, "P11.4: goals", []int{to(ats[0]), to(ats[1]), to(ats[2]), to(ats[5]), to(ats[7])}, []int{1, 3, 65, 131, 195})
	for i, at := range ats {
		if i%2 == 1 {
			x.fields(t, "P11.3", to(at), to(at), 1, 65, 131, 195)
		}
	}
}

// A full space whose first object is gone, and one in which all stay.
func TestFullSpaces(t *testing.T) {
	x := made(t, small())
	gone := x.lay(t, api.SpaceTenured, 0)
	long := x.lay(t, api.SpaceTenured, 96)
	for i := range 96 {
		x.a.SetRaw(long, i, uint64(i)*1<<50+7)
	}
	whole := x.lay(t, api.SpaceEden, 61, gone)
	x.mark(long, whole).plan(t, api.Move{From: 1, To: 1, Words: 64}, api.Move{From: 195, To: 193, Words: 98})
	x.slide(t)
	x.tops(t, 65, 65, 129, 291)
	x.fields(t, "P11.3", whole, 0)
	for i := range 96 {
		w, _ := x.a.Raw(193, i)
		want(t, "P11.3: a raw field of a long object", w, uint64(i)*1<<50+7)
	}
}

// Slide without update, with nil alone, and with many: all are called once, in their order, when all has been moved.
func TestUpdatesInTheirOrder(t *testing.T) {
	type update = func(to func(at int) int)
	for _, list := range [][]update{nil, {}, {nil}, {nil, nil, nil}} {
		x := example(t).mark(1, 9, 196)
		want(t, "P11.4: error", compact.Slide(x.a, x.m, list...), api.OK)
		x.tops(t, 8, 65, 129, 195)
	}
	x := example(t).mark(1, 9, 196)
	var told []string
	saying := func(name string) update {
		return func(to func(at int) int) {
			told = append(told, fmt.Sprint(name, to(9), x.a.Top(api.SpaceEden), x.a.Top(api.SpaceTenured), x.a.Word(3)))
		}
	}
	list := []update{saying("a "), nil, saying("b "), saying("c "), nil, saying("a ")}
	want(t, "P11.4: error", compact.Slide(x.a, x.m, list...), api.OK)
	want(t, "P11.4", told, "[a 5 8 195 5 b 5 8 195 5 c 5 8 195 5 a 5 8 195 5]")
	for i, f := range list {
		want(t, "rule 3: is the list's function nil", f == nil, i == 1 || i == 4)
	}
}

// to goes on telling of its Slide, whatever is done to arena and map behind it, and from within another update.
func TestToGoesOnTelling(t *testing.T) {
	x := example(t).mark(1, 9, 196)
	goals := map[int]int{1: 1, 9: 5, 196: 193}
	first := x.slide(t)
	x.m.Clear()
	goes(t, first, 293, goals)
	x.m.Set(0, 293)
	goes(t, first, 293, goals)
	y := x.anew(t, 5)
	second := y.slide(t)
	goes(t, first, 293, goals)
	goes(t, second, 293, map[int]int{5: 1})
	for _, space := range all {
		bottom, _ := x.a.Bounds(space)
		x.a.Cut(space, bottom)
		x.fill(t, space, 50)
	}
	x.a.Swap()
	goes(t, first, 293, goals)
	goes(t, second, 293, map[int]int{5: 1})
}

// An update may slide again.
func TestSlideWithinUpdate(t *testing.T) {
	x := example(t).mark(1, 9, 196)
	var inner, outer func(at int) int
	e := compact.Slide(x.a, x.m, func(to func(at int) int) {
		inner = x.anew(t, to(9)).slide(t)
	}, func(to func(at int) int) { outer = to })
	want(t, "P11.4: error", e, api.OK)
	goes(t, outer, 293, map[int]int{1: 1, 9: 5, 196: 193})
	goes(t, inner, 293, map[int]int{5: 1})
	x.tops(t, 4, 65, 129, 193)
	x.fields(t, "P11.3", 1, 0)
}

// Several may ask at once.
func TestToFromSeveralAtOnce(t *testing.T) {
	x := example(t).mark(1, 9, 196)
	to := x.slide(t)
	var all sync.WaitGroup
	for range 8 {
		all.Add(1)
		go func() {
			defer all.Done()
			goes(t, to, 293, map[int]int{1: 1, 9: 5, 196: 193})
		}()
	}
	all.Wait()
}

// The map isn't changed, and neither is Plan's answer by Slide.
func TestMapStays(t *testing.T) {
	x := example(t).mark(1, 9, 196)
	was, list := wordsMarked(x.m), x.moves(t)
	x.slide(t)
	want(t, "the map isn't changed", wordsMarked(x.m), was)
	if !slices.Equal(list, []api.Move{{From: 1, To: 1, Words: 4}, {From: 9, To: 5, Words: 3}, {From: 196, To: 193, Words: 2}}) {
		t.Errorf("rule 3: Slide changes what Plan answered: %v", list)
	}
}
