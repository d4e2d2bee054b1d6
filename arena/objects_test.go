package arena_test

import (
	"testing"

	"midden/api"
	"midden/arena"
	"midden/cell"
)

// heads are some that may be, of each kind.
var heads = []api.Head{
	{Kind: api.Plain},
	{Serial: 7, Kind: api.Plain, Ptrs: 1, Raws: 2},
	{Serial: 1<<64 - 1, Kind: api.Weak, Ptrs: 1, Age: 15, Site: 255, Held: true},
	{Serial: api.MaxSerial, Kind: api.Ephemeron, Ptrs: 2, Raws: 3, Site: 1},
	{Serial: 5, Kind: api.Final, Raws: 9, Age: 1},
	{Serial: 6, Kind: api.Final, Ptrs: 10},
}

// wrong are some that may not be.
var wrong = []api.Head{
	{}, {Kind: 5}, {Kind: -1}, {Kind: api.Weak}, {Kind: api.Ephemeron, Ptrs: 1},
	{Kind: api.Plain, Ptrs: -1}, {Kind: api.Plain, Ptrs: 4096}, {Kind: api.Plain, Raws: -1}, {Kind: api.Plain, Raws: 65536},
	{Kind: api.Plain, Ptrs: -2, Raws: 5}, {Kind: api.Plain, Ptrs: most, Raws: most}, {Kind: api.Plain, Ptrs: least},
	{Kind: api.Plain, Age: 16}, {Kind: api.Plain, Age: -1}, {Kind: api.Plain, Site: 256}, {Kind: api.Plain, Site: -1},
}

func TestPut(t *testing.T) {
	for _, space := range all {
		a := made(t, small())
		for at := 1; at < 293; at++ {
			a.SetWord(at, 1<<64-1)
		}
		want, _ := a.Bounds(space)
		for _, h := range heads {
			if at, ok := a.Put(space, h); at != want || !ok {
				t.Fatalf("P3.8: Put(%d, %+v) = %d, %v, want %d", space, h, at, ok, want)
			}
			meta, _ := cell.Pack(h)
			if a.Word(want) != meta || a.Word(want+1) != h.Serial {
				t.Errorf("P3.8: the header of %+v: %#x, %d", h, a.Word(want), a.Word(want+1))
			}
			for i := range h.Ptrs + h.Raws {
				if a.Word(want+2+i) != 0 {
					t.Errorf("P3.8: the field %d of %+v is %#x", i, h, a.Word(want+2+i))
				}
			}
			if g, ok := a.Head(want); g != h || !ok {
				t.Errorf("P3.7: Head of %+v: %+v, %v", h, g, ok)
			}
			want += 2 + h.Ptrs + h.Raws
			if a.Top(space) != want || a.Word(want) != 1<<64-1 {
				t.Errorf("P3.8: behind %+v the top is %d, want %d", h, a.Top(space), want)
			}
		}
	}
}

func TestPutRefused(t *testing.T) {
	a := made(t, small())
	put(t, a, api.SpaceEden, heads[1])
	was := imaged(a)
	for _, h := range append(wrong, api.Head{Kind: api.Plain, Raws: 58}, api.Head{Kind: api.Plain, Ptrs: 58}, api.Head{Kind: api.Plain, Ptrs: 4095, Raws: 65535}) {
		if at, ok := a.Put(api.SpaceEden, h); at != 0 || ok || !imaged(a).same(was) {
			t.Errorf("P3.8: Put(%+v) = %d, %v, or something has changed", h, at, ok)
		}
	}
	if at, ok := a.Put(api.SpaceEden, api.Head{Kind: api.Plain, Raws: 57}); at != 6 || !ok || a.Free(api.SpaceEden) != 0 {
		t.Errorf("P3.8: Put that takes all that is free: %d, %v", at, ok)
	}
}

// TestPutAtLimits lays the greatest object that a space may take, with the most pointer fields.
func TestPutAtLimits(t *testing.T) {
	c := small()
	c.Tenured = api.MaxSpace
	a := made(t, c)
	h := api.Head{Serial: 1, Kind: api.Final, Ptrs: api.MaxPtrs, Raws: api.MaxSpace - 2 - api.MaxPtrs}
	at := put(t, a, api.SpaceTenured, h)
	if a.Free(api.SpaceTenured) != 0 || len(walk(a, api.SpaceTenured)) != 1 {
		t.Errorf("P3.8: it doesn't fill the space")
	}
	if !a.SetPtr(at, api.MaxPtrs-1, at) || a.SetPtr(at, api.MaxPtrs, at) || !a.SetRaw(at, h.Raws-1, 9) || a.SetRaw(at, h.Raws, 9) {
		t.Errorf("P3.9: the last fields of the greatest object")
	}
	if w, ok := a.Raw(at, h.Raws-1); w != 9 || !ok || a.Word(193+api.MaxSpace-1) != 9 {
		t.Errorf("P3.9: its last raw field: %d, %v", w, ok)
	}
	if b := made(t, c); b.Fill(api.SpaceTenured, api.MaxSpace+1) || !b.Fill(api.SpaceTenured, api.MaxSpace) {
		t.Errorf("P3.8: Fill of a whole space")
	}
}

func TestFill(t *testing.T) {
	for _, space := range all {
		a := made(t, small())
		for at := 1; at < 293; at++ {
			a.SetWord(at, 1<<64-1)
		}
		at, _ := a.Bounds(space)
		for _, words := range []int{1, 2, 3, 20} {
			fill(t, a, space, words)
			if a.Word(at) != uint64(words)*4+3 || a.Top(space) != at+words {
				t.Errorf("P3.8: Fill(%d, %d): the word is %d, the top %d", space, words, a.Word(at), a.Top(space))
			}
			for i := at + 1; i < at+words; i++ {
				if a.Word(i) != 0 {
					t.Errorf("P3.8: Fill(%d, %d): the word %d isn't 0", space, words, i)
				}
			}
			at += words
		}
		was := imaged(a)
		for _, words := range append([]int{0, a.Free(space) + 1}, odd...) {
			if a.Fill(space, words) || !imaged(a).same(was) {
				t.Errorf("P3.8: Fill(%d, %d) isn't refused, or something has changed", space, words)
			}
		}
		fill(t, a, space, a.Free(space))
	}
}

func TestHeadByWordsAsTheyStand(t *testing.T) {
	a := made(t, small())
	meta, _ := cell.Pack(api.Head{Kind: api.Plain, Ptrs: 1, Raws: 1})
	for _, space := range all {
		first, _ := a.Bounds(space)
		a.SetWord(first+3, meta)
		a.SetWord(first+4, 77)
		checkNone(t, a, first+3, "above the top")
		a.Take(space, 1)
		a.Cut(space, first)
		a.SetWord(first+3, meta)
		for top := first + 1; top < first+10; top++ {
			a.Take(space, 1)
			a.SetWord(first+3, meta)
			a.SetWord(first+4, 77)
			if top < first+7 {
				checkNone(t, a, first+3, "not wholly below the top")
			} else if h, ok := a.Head(first + 3); !ok || h != (api.Head{Serial: 77, Kind: api.Plain, Ptrs: 1, Raws: 1}) {
				t.Errorf("P3.7: words that were written: Head(%d) = %+v, %v", first+3, h, ok)
			}
		}
		for _, w := range []uint64{0, 2, 22, 7, 1, meta | 1<<46, meta + 4*4, 1<<64 - 1} {
			a.SetWord(first+3, w)
			checkNone(t, a, first+3, "with no header's word")
		}
	}
}

// checkNone holds all calls at an address where no object stands to their refusals.
func checkNone(t *testing.T, a *arena.Arena, at int, why string) {
	t.Helper()
	was := imaged(a)
	if h, ok := a.Head(at); h != (api.Head{}) || ok {
		t.Errorf("P3.7: Head(%d) %s: %+v, %v", at, why, h, ok)
	}
	for _, i := range append([]int{0, 1}, odd...) {
		if p, ok := a.Ptr(at, i); p != 0 || ok {
			t.Errorf("P3.9: Ptr(%d, %d) %s: %d, %v", at, i, why, p, ok)
		}
		if w, ok := a.Raw(at, i); w != 0 || ok {
			t.Errorf("P3.9: Raw(%d, %d) %s: %d, %v", at, i, why, w, ok)
		}
		if a.SetPtr(at, i, 1) || a.SetRaw(at, i, 1) {
			t.Errorf("P3.9: SetPtr or SetRaw(%d, %d) %s", at, i, why)
		}
	}
	for _, h := range heads {
		if a.SetHead(at, h) {
			t.Errorf("P3.9: SetHead(%d) %s", at, why)
		}
	}
	if !imaged(a).same(was) {
		t.Errorf("P3.9: something has changed at %d %s", at, why)
	}
}

func TestNoObjectAtOddAddresses(t *testing.T) {
	a := made(t, small())
	for _, space := range all {
		put(t, a, space, heads[1])
		fill(t, a, space, 5)
	}
	for _, at := range append([]int{0, 2, 3, 5, 6, 7, 11, 64, 293, 294}, odd...) {
		checkNone(t, a, at, "of no object")
	}
}

// TestObjectDoesntReachOverItsTop has one whose words would lie in the next space.
func TestObjectDoesntReachOverItsTop(t *testing.T) {
	a := made(t, small())
	meta, _ := cell.Pack(api.Head{Kind: api.Plain, Raws: 4})
	for _, space := range all {
		a.Take(space, a.Free(space))
	}
	for _, space := range all {
		_, behind := a.Bounds(space)
		for back := 1; back < 6; back++ {
			a.SetWord(behind-back, meta)
			checkNone(t, a, behind-back, "that would go on in the next space")
			a.SetWord(behind-back, 0)
		}
		a.SetWord(behind-6, meta)
		if _, ok := a.Head(behind - 6); !ok {
			t.Errorf("P3.7: none stands at the end of space %d", space)
		}
	}
}

func TestSetHead(t *testing.T) {
	a := made(t, small())
	for _, space := range all {
		at := put(t, a, space, api.Head{Serial: 7, Kind: api.Plain, Ptrs: 2, Raws: 3})
		put(t, a, space, heads[0])
		for i := range 5 {
			a.SetWord(at+2+i, uint64(i)+50)
		}
		for _, h := range []api.Head{
			{Serial: 1<<64 - 1, Kind: api.Ephemeron, Ptrs: 2, Raws: 3, Age: 15, Site: 255, Held: true},
			{Kind: api.Weak, Ptrs: 2, Raws: 3, Age: 1}, {Serial: 9, Kind: api.Final, Ptrs: 2, Raws: 3, Site: 4}, {Serial: 7, Kind: api.Plain, Ptrs: 2, Raws: 3},
		} {
			was := imaged(a)
			if !a.SetHead(at, h) {
				t.Errorf("P3.9: SetHead(%d, %+v) is refused", at, h)
			}
			if g, ok := a.Head(at); g != h || !ok {
				t.Errorf("P3.9: behind SetHead(%d, %+v): %+v, %v", at, h, g, ok)
			}
			was.words[at], was.words[at+1] = a.Word(at), a.Word(at+1)
			if !imaged(a).same(was) {
				t.Errorf("P3.13: SetHead(%d) changes more than the header", at)
			}
		}
		was := imaged(a)
		for _, h := range append(wrong,
			api.Head{Kind: api.Plain, Ptrs: 3, Raws: 2}, api.Head{Kind: api.Plain, Ptrs: 2, Raws: 2}, api.Head{Kind: api.Plain, Ptrs: 2, Raws: 4},
			api.Head{Kind: api.Plain, Ptrs: 1, Raws: 3}, api.Head{Kind: api.Plain, Ptrs: 3, Raws: 3}, api.Head{Kind: 9, Ptrs: 2, Raws: 3}, api.Head{Kind: api.Plain, Ptrs: 2, Raws: 3, Age: 16}, api.Head{Kind: api.Plain, Ptrs: 2, Raws: 3, Site: -1}) {
			if a.SetHead(at, h) || !imaged(a).same(was) {
				t.Errorf("P3.9: SetHead(%d, %+v) isn't refused, or something has changed", at, h)
			}
		}
	}
}

func TestPtr(t *testing.T) {
	a := made(t, small())
	at := put(t, a, api.SpaceA, api.Head{Serial: 1, Kind: api.Plain, Ptrs: 3, Raws: 2})
	put(t, a, api.SpaceA, api.Head{Serial: 2, Kind: api.Plain, Ptrs: 1})
	for i := range 3 {
		for _, to := range []int{1, 0, 64, 292, at, 2} { // where it points to isn't looked at
			was := imaged(a)
			if !a.SetPtr(at, i, to) {
				t.Errorf("P3.9: SetPtr(%d, %d, %d) is refused", at, i, to)
			}
			if p, ok := a.Ptr(at, i); p != to || !ok || a.Word(at+2+i) != uint64(to) {
				t.Errorf("P3.9: Ptr(%d, %d) = %d, %v, want %d", at, i, p, ok, to)
			}
			was.words[at+2+i] = uint64(to)
			if !imaged(a).same(was) {
				t.Errorf("P3.13: SetPtr(%d, %d) changes other words", at, i)
			}
		}
	}
	was := imaged(a)
	for _, i := range append([]int{3, 4, 5, -2}, odd...) {
		if p, ok := a.Ptr(at, i); p != 0 || ok || a.SetPtr(at, i, 1) {
			t.Errorf("P3.9: the pointer field %d: %d, %v", i, p, ok)
		}
	}
	for _, to := range append([]int{293, 294}, odd...) {
		if a.SetPtr(at, 0, to) || a.SetPtr(at, 3, to) {
			t.Errorf("P3.9: SetPtr to %d", to)
		}
	}
	if !imaged(a).same(was) {
		t.Errorf("P3.9: what was refused has changed something")
	}
	for _, w := range []uint64{293, 294, 1 << 32, 1<<32 + 5, 1 << 63, 1<<63 + 5, 1<<64 - 1} {
		a.SetWord(at+3, w)
		if p, ok := a.Ptr(at, 1); p != 0 || ok {
			t.Errorf("P3.9: a pointer field of the word %d: %d, %v", w, p, ok)
		}
	}
	a.SetWord(at+3, 292)
	if p, ok := a.Ptr(at, 1); p != 292 || !ok {
		t.Errorf("P3.9: a pointer field of the last word: %d, %v", p, ok)
	}
}

func TestRaw(t *testing.T) {
	a := made(t, small())
	at := put(t, a, api.SpaceTenured, api.Head{Serial: 1, Kind: api.Plain, Ptrs: 2, Raws: 3})
	put(t, a, api.SpaceTenured, heads[0])
	for i := range 3 {
		for _, w := range []uint64{1, 0, 293, 1 << 63, 1<<64 - 1, 5} {
			was := imaged(a)
			if !a.SetRaw(at, i, w) {
				t.Errorf("P3.9: SetRaw(%d, %d, %d) is refused", at, i, w)
			}
			if g, ok := a.Raw(at, i); g != w || !ok || a.Word(at+4+i) != w {
				t.Errorf("P3.9: Raw(%d, %d) = %d, %v, want %d", at, i, g, ok, w)
			}
			was.words[at+4+i] = w
			if !imaged(a).same(was) {
				t.Errorf("P3.13: SetRaw(%d, %d) changes other words", at, i)
			}
		}
	}
	was := imaged(a)
	for _, i := range append([]int{3, 4, -2}, odd...) {
		if w, ok := a.Raw(at, i); w != 0 || ok || a.SetRaw(at, i, 1) {
			t.Errorf("P3.9: the raw field %d: %d, %v", i, w, ok)
		}
	}
	if !imaged(a).same(was) {
		t.Errorf("P3.9: what was refused has changed something")
	}
}
