package arena_test

import (
	"testing"

	"midden/api"
)

func TestWords(t *testing.T) {
	a := made(t, small())
	for _, at := range append([]int{0, 293, 294, 1000}, odd...) {
		was := imaged(a)
		if a.SetWord(at, 7) || !imaged(a).same(was) {
			t.Errorf("P3.3: SetWord(%d) writes", at)
		}
		if w := a.Word(at); w != 0 {
			t.Errorf("P3.3: Word(%d) = %d", at, w)
		}
	}
	for at := 1; at < 293; at++ {
		w := uint64(at) * 0x9e3779b97f4a7c15
		was := imaged(a)
		if !a.SetWord(at, w) || a.Word(at) != w {
			t.Errorf("P3.3: SetWord(%d, %#x): the word is %#x", at, w, a.Word(at))
		}
		if n, where := was.apart(imaged(a)); n != 1 || where != at {
			t.Errorf("P3.3: SetWord(%d) changes %d words, the first is %d", at, n, where)
		}
	}
	if !a.SetWord(5, 0) || a.Word(5) != 0 || !a.SetWord(5, 1<<64-1) || a.Word(5) != 1<<64-1 {
		t.Errorf("P3.3: words of all bits")
	}
}

func TestBounds(t *testing.T) {
	c := small()
	c.Eden, c.Survivor, c.Tenured = 70, 80, 65536
	a := made(t, c)
	want := map[int][2]int{api.SpaceEden: {1, 71}, api.SpaceA: {71, 151}, api.SpaceB: {151, 231}, api.SpaceTenured: {231, 65767}}
	for _, space := range append([]int{0, 1, 2, 3, 4, 5, 6}, odd...) {
		first, behind := a.Bounds(space)
		if w := want[space]; first != w[0] || behind != w[1] {
			t.Errorf("P3.4: Bounds(%d) = %d, %d, want %v", space, first, behind, w)
		}
		if a.Top(space) != first || a.Free(space) != behind-first {
			t.Errorf("P3.4: space %d at first: top %d, free %d", space, a.Top(space), a.Free(space))
		}
	}
}

func TestTake(t *testing.T) {
	for _, space := range all {
		a := made(t, small())
		first, behind := a.Bounds(space)
		for at := 1; at < 293; at++ {
			a.SetWord(at, uint64(at)+1000)
		}
		at := first
		for _, words := range []int{1, 2, 7} {
			was := imaged(a)
			if got, ok := a.Take(space, words); got != at || !ok {
				t.Errorf("P3.5: Take(%d, %d) = %d, %v, want %d", space, words, got, ok, at)
			}
			n, where := was.apart(imaged(a))
			if n != words || where != at || a.Word(at) != 0 || a.Word(at+words-1) != 0 {
				t.Errorf("P3.5: Take(%d, %d): %d words changed from %d on, not those taken", space, words, n, where)
			}
			at += words
			if a.Top(space) != at || a.Free(space) != behind-at {
				t.Errorf("P3.5: behind Take(%d, %d): top %d, free %d", space, words, a.Top(space), a.Free(space))
			}
		}
		checkTakeRefused(t, space, append([]int{0, behind - at + 1, behind}, odd...))
		if got, ok := a.Take(space, behind-at); got != at || !ok || a.Free(space) != 0 || a.Top(space) != behind {
			t.Errorf("P3.5: Take of all that is free: %d, %v", got, ok)
		}
		if got, ok := a.Take(space, 1); got != 0 || ok {
			t.Errorf("P3.5: Take of a full space: %d, %v", got, ok)
		}
	}
}

func checkTakeRefused(t *testing.T, space int, sizes []int) {
	t.Helper()
	a := made(t, small())
	a.Take(space, 10)
	was := imaged(a)
	for _, words := range sizes {
		if at, ok := a.Take(space, words); at != 0 || ok || !imaged(a).same(was) {
			t.Errorf("P3.5: Take(%d, %d) = %d, %v, or something has changed", space, words, at, ok)
		}
	}
}

func TestNoSpace(t *testing.T) {
	a := made(t, small())
	put(t, a, api.SpaceEden, api.Head{Kind: api.Plain})
	was := imaged(a)
	for _, space := range append([]int{0, 5, 6}, odd...) {
		for _, n := range []int{0, 1, 2, 65, most, least} {
			if at, ok := a.Take(space, n); at != 0 || ok {
				t.Errorf("P3.5: Take(%d, %d) = %d, %v", space, n, at, ok)
			}
			if a.Cut(space, n) || a.Fill(space, n) {
				t.Errorf("P3.5, P3.8: Cut or Fill(%d, %d)", space, n)
			}
		}
		if at, ok := a.Put(space, api.Head{Kind: api.Plain}); at != 0 || ok {
			t.Errorf("P3.8: Put(%d) = %d, %v", space, at, ok)
		}
		if it := a.Objects(space); it == nil || len(walk(a, space)) != 0 {
			t.Errorf("P3.10: Objects(%d)", space)
		}
	}
	if !imaged(a).same(was) {
		t.Errorf("P3.5: something has changed in no space")
	}
}

func TestCut(t *testing.T) {
	for _, space := range all {
		a := made(t, small())
		first, behind := a.Bounds(space)
		if !a.Cut(space, first) {
			t.Errorf("P3.5: Cut(%d) of an empty space to its first word", space)
		}
		a.Take(space, 20)
		for at := 1; at < 293; at++ {
			a.SetWord(at, uint64(at)+1000)
		}
		was := imaged(a)
		for _, top := range append([]int{0, first - 1, first + 21, behind - 1, behind, behind + 1}, odd...) {
			if a.Cut(space, top) || !imaged(a).same(was) {
				t.Errorf("P3.5: Cut(%d, %d) with the top %d", space, top, first+20)
			}
		}
		for _, top := range []int{first + 20, first + 19, first + 7, first} {
			if !a.Cut(space, top) || a.Top(space) != top || a.Free(space) != behind-top {
				t.Errorf("P3.5: Cut(%d, %d): top %d, free %d", space, top, a.Top(space), a.Free(space))
			}
			if n, at := was.apart(imaged(a)); n != 0 {
				t.Errorf("P3.5: Cut(%d, %d) changes the word %d", space, top, at)
			}
		}
		if at, ok := a.Take(space, 3); at != first || !ok || a.Word(first+2) != 0 || a.Word(first+3) != uint64(first)+1003 {
			t.Errorf("P3.5: Take behind Cut: %d, %v", at, ok)
		}
		for _, other := range all {
			if f, _ := a.Bounds(other); other != space && a.Top(other) != f {
				t.Errorf("P3.5: the top of %d has changed with that of %d", other, space)
			}
		}
	}
}

func TestSwapAndYoung(t *testing.T) {
	c := small()
	c.Eden, c.Survivor, c.Tenured = 64, 70, 90
	a := made(t, c)
	edges := []struct{ at, space int }{{0, 0}, {1, 1}, {64, 1}, {65, 2}, {134, 2}, {135, 3}, {204, 3}, {205, 4}, {294, 4}, {295, 0}}
	for turn := range 4 {
		from, to := api.SpaceA, api.SpaceB
		if turn%2 == 1 {
			from, to = to, from
		}
		if a.From() != from || a.To() != to {
			t.Errorf("P3.6: behind %d swaps: from %d, to %d", turn, a.From(), a.To())
		}
		for _, e := range edges {
			if s, y := a.Space(e.at), a.Young(e.at); s != e.space || y != (s == 1 || s == from) {
				t.Errorf("P3.6: %d swaps: Space(%d) = %d, Young: %v", turn, e.at, s, y)
			}
		}
		for _, at := range odd {
			if a.Space(at) != api.SpaceNone || a.Young(at) {
				t.Errorf("P3.6: Space(%d) = %d, Young: %v", at, a.Space(at), a.Young(at))
			}
		}
		was := imaged(a)
		a.Swap()
		if n, _ := was.apart(imaged(a)); n != 0 || was.tops != imaged(a).tops {
			t.Errorf("P3.6: Swap changes words or tops")
		}
		put(t, a, 1+turn, api.Head{Kind: api.Plain, Raws: turn}) // neither hangs on what is in use
	}
}
