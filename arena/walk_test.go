package arena_test

import (
	"slices"
	"sync"
	"testing"

	"midden/api"
	"midden/arena"
	"midden/cell"
)

// checkWalks holds Objects and Check against the walk told word for word.
func checkWalks(t *testing.T, a *arena.Arena) {
	t.Helper()
	wantAt, wantErr := 0, api.OK
	for _, space := range all {
		want, fails := walked(a, space)
		if got := walk(a, space); !slices.Equal(got, want) {
			t.Errorf("P3.10: Objects(%d) gives %v, want %v", space, got, want)
		}
		if fails >= 0 && wantErr == api.OK {
			wantAt, wantErr = fails, api.ErrArenaWalk
		}
	}
	if at, e := a.Check(); at != wantAt || e != wantErr {
		t.Errorf("P3.11: Check() = %d, %d, want %d, %d", at, e, wantAt, wantErr)
	}
}

func TestWalkPassesFillers(t *testing.T) {
	for _, space := range all {
		a := made(t, small())
		first, _ := a.Bounds(space)
		fill(t, a, space, 1)
		fill(t, a, space, 4)
		put(t, a, space, heads[1])
		put(t, a, space, heads[2])
		fill(t, a, space, 2)
		put(t, a, space, heads[0])
		fill(t, a, space, 1)
		fill(t, a, space, 7)
		want := []met{{first + 5, heads[1]}, {first + 10, heads[2]}, {first + 15, heads[0]}}
		if got := walk(a, space); !slices.Equal(got, want) {
			t.Errorf("P3.10: Objects(%d) gives %v, want %v", space, got, want)
		}
		checkWalks(t, a)
		if at, e := a.Check(); at != 0 || e != api.OK {
			t.Errorf("P3.11: Check() = %d, %d", at, e)
		}
	}
}

// TestWalkFails has, in each space, each kind of word that is no object and no filler there.
func TestWalkFails(t *testing.T) {
	long, _ := cell.Pack(api.Head{Kind: api.Plain, Raws: 9})
	for _, space := range all {
		for _, w := range []uint64{0, 1, 2, 3, cell.Forward(5), cell.Filler(9), cell.Filler(1 << 40), (1<<40+1)*4 + 3, 1<<64 - 1, long, long | 1<<50} {
			for words := 1; words < 9; words++ {
				a := made(t, small())
				at := put(t, a, space, heads[1])
				fill(t, a, space, 3)
				a.Take(space, words)
				a.SetWord(at+8, w)
				checkWalks(t, a)
				if got, e := a.Check(); got != at+8 || e != api.ErrArenaWalk {
					t.Errorf("P3.11: %#x at %d, %d words below the top: Check() = %d, %d", w, at+8, words, got, e)
				}
				if l := walk(a, space); len(l) != 1 || l[0].at != at {
					t.Errorf("P3.10: %#x at %d: Objects gives %v", w, at+8, l)
				}
			}
		}
	}
}

func TestCheckTellsTheFirst(t *testing.T) {
	a := made(t, small())
	for i := len(all) - 1; i >= 0; i-- {
		at := put(t, a, all[i], heads[1])
		a.Take(all[i], 1)
		if got, e := a.Check(); got != at+5 || e != api.ErrArenaWalk {
			t.Errorf("P3.11: Check() = %d, %d, want %d", got, e, at+5)
		}
	}
	for _, space := range all {
		first, _ := a.Bounds(space)
		if got, _ := a.Check(); got != first+5 {
			t.Errorf("P3.11: Check() = %d, want %d", got, first+5)
		}
		a.Cut(space, first+5)
	}
	if at, e := a.Check(); at != 0 || e != api.OK {
		t.Errorf("P3.11: Check() = %d, %d, want 0, 0", at, e)
	}
}

// TestWalkEndsAtTop: what a full space's end, or a lowered top, has behind it isn't the walk's.
func TestWalkEndsAtTop(t *testing.T) {
	a := made(t, small())
	for _, space := range all {
		put(t, a, space, heads[1])
		fill(t, a, space, a.Free(space))
	}
	checkWalks(t, a)
	for _, space := range all {
		if l := walk(a, space); len(l) != 1 {
			t.Errorf("P3.10: a full space %d: %v", space, l)
		}
	}
	for _, space := range all {
		first, _ := a.Bounds(space)
		a.Cut(space, first+5)
		if l := walk(a, space); len(l) != 1 {
			t.Errorf("P3.10: behind Cut: %v", l)
		}
		a.Cut(space, first)
		if l := walk(a, space); len(l) != 0 {
			t.Errorf("P3.10: an empty space %d: %v", space, l)
		}
	}
}

func TestWalkIsLeftAndGoneThroughAgain(t *testing.T) {
	a := made(t, small())
	var want []int
	for i := range 5 {
		want = append(want, put(t, a, api.SpaceB, heads[i]))
		fill(t, a, api.SpaceB, 1+i%2)
	}
	it := a.Objects(api.SpaceB)
	for stop := range 7 {
		var got []int
		it(func(at int, h api.Head) bool {
			got = append(got, at)
			return len(got) != stop
		})
		n := stop
		if stop == 0 || stop > 5 {
			n = 5
		}
		if !slices.Equal(got, want[:n]) {
			t.Errorf("P3.10: left at %d: %v, want %v", stop, got, want[:n])
		}
	}
	steps := 0
	for range it {
		for range it {
			for range it {
				steps++
				break
			}
		}
	}
	if steps != 25 {
		t.Errorf("P3.10: walks within walks: %d steps, want 25", steps)
	}
	a.Cut(api.SpaceB, want[2])
	put(t, a, api.SpaceB, heads[3])
	if l := walk(a, api.SpaceB); !slices.Equal(l, []met{{want[0], heads[0]}, {want[1], heads[1]}, {want[2], heads[3]}}) {
		t.Errorf("P3.10: another walk behind changes: %v", l)
	}
	n := 0
	for range it {
		n++
	}
	if n != 3 {
		t.Errorf("an iterator gives what is there when it is gone through: %d objects, want 3", n)
	}
}

// TestWalksOfAnyWords lays words that look like headers and fillers anywhere, and holds all that is told against the words.
func TestWalksOfAnyWords(t *testing.T) {
	d := dice(3)
	for range 400 {
		a := made(t, small())
		for _, space := range all {
			if n := d.below(a.Free(space) + 1); n > 0 {
				a.Take(space, n)
			}
		}
		if d.below(2) == 0 {
			a.Swap()
		}
		for at := 1; at < 293; at++ {
			h := d.head()
			meta, _ := cell.Pack(h)
			a.SetWord(at, []uint64{meta, meta, cell.Filler(1 + d.below(5)), cell.Filler(1), uint64(d.below(400)), d.word()}[d.below(6)])
		}
		checkWalks(t, a)
		for at := -1; at < 295; at++ {
			checkObject(t, a, at)
		}
	}
}

// checkObject holds what is told of an address against its words.
func checkObject(t *testing.T, a *arena.Arena, at int) {
	t.Helper()
	want, is := stands(a, at)
	if h, ok := a.Head(at); h != want || ok != is {
		t.Errorf("P3.7: Head(%d) = %+v, %v, want %+v, %v", at, h, ok, want, is)
	}
	for i := -1; i < want.Ptrs+want.Raws+2; i++ {
		w := a.Word(at + 2 + i)
		isPtr := is && i >= 0 && i < want.Ptrs && w < 293
		if p, ok := a.Ptr(at, i); ok != isPtr || ok && uint64(p) != w || !ok && p != 0 {
			t.Errorf("P3.9: Ptr(%d, %d) = %d, %v, of the word %d", at, i, p, ok, w)
		}
		w = a.Word(at + 2 + want.Ptrs + i)
		isRaw := is && i >= 0 && i < want.Raws
		if r, ok := a.Raw(at, i); ok != isRaw || ok && r != w || !ok && r != 0 {
			t.Errorf("P3.9: Raw(%d, %d) = %d, %v, of the word %d", at, i, r, ok, w)
		}
	}
}

// laid: an object as it was written last.
type laid struct {
	met
	ptrs []int
	raws []uint64
}

// TestWhatIsPutStays writes at objects of all spaces, many times, and holds the arena against a list of them.
func TestWhatIsPutStays(t *testing.T) {
	d := dice(12)
	for range 60 {
		a := made(t, small())
		lists := make([][]*laid, 5)
		for range 300 {
			space := all[d.below(4)]
			switch d.below(8) {
			case 0, 1:
				h := d.head()
				if at, ok := a.Put(space, h); ok {
					lists[space] = append(lists[space], &laid{met{at, h}, make([]int, h.Ptrs), make([]uint64, h.Raws)})
				}
			case 2:
				a.Fill(space, 1+d.below(4))
			case 3:
				if n := len(lists[space]); n > 0 && d.below(4) == 0 {
					cut := d.below(n)
					a.Cut(space, lists[space][cut].at)
					lists[space] = lists[space][:cut]
				}
			default:
				if n := len(lists[space]); n > 0 {
					rewrite(t, a, &d, lists[space][d.below(n)])
				}
			}
		}
		for _, space := range all {
			checkLaid(t, a, space, lists[space])
		}
		if at, e := a.Check(); at != 0 || e != api.OK {
			t.Errorf("P3.12: Check() = %d, %d", at, e)
		}
	}
}

func rewrite(t *testing.T, a *arena.Arena, d *dice, o *laid) {
	t.Helper()
	ok := true
	switch d.below(3) {
	case 0:
		h := d.head()
		h.Ptrs, h.Raws = o.head.Ptrs, o.head.Raws
		if _, e := cell.Pack(h); e != api.OK {
			h.Kind = api.Final
		}
		o.head, ok = h, a.SetHead(o.at, h)
	case 1:
		if o.head.Ptrs > 0 {
			i, to := d.below(o.head.Ptrs), d.below(293)
			o.ptrs[i], ok = to, a.SetPtr(o.at, i, to)
		}
	case 2:
		if o.head.Raws > 0 {
			i, w := d.below(o.head.Raws), d.word()
			o.raws[i], ok = w, a.SetRaw(o.at, i, w)
		}
	}
	if !ok {
		t.Errorf("P3.9: a write at %d is refused", o.at)
	}
}

func checkLaid(t *testing.T, a *arena.Arena, space int, list []*laid) {
	t.Helper()
	var want []met
	for _, o := range list {
		want = append(want, o.met)
		for i, to := range o.ptrs {
			if p, ok := a.Ptr(o.at, i); p != to || !ok {
				t.Errorf("P3.12, P3.13: Ptr(%d, %d) = %d, %v, want %d", o.at, i, p, ok, to)
			}
		}
		for i, w := range o.raws {
			if r, ok := a.Raw(o.at, i); r != w || !ok {
				t.Errorf("P3.12, P3.13: Raw(%d, %d) = %d, %v, want %d", o.at, i, r, ok, w)
			}
		}
	}
	if got := walk(a, space); !slices.Equal(got, want) {
		t.Errorf("P3.12: Objects(%d) gives %v, want %v", space, got, want)
	}
}

// TestTellingAtOnce has several ask at once: under the race detector this fails if a call that only tells writes.
func TestTellingAtOnce(t *testing.T) {
	a := made(t, small())
	for _, space := range all {
		for _, h := range heads {
			put(t, a, space, h)
			fill(t, a, space, 1)
		}
	}
	was := imaged(a)
	var wait sync.WaitGroup
	for range 8 {
		wait.Go(func() {
			checkWalks(t, a)
			for at := range 293 {
				checkObject(t, a, at)
				a.Young(at)
			}
		})
	}
	wait.Wait()
	if !imaged(a).same(was) {
		t.Errorf("calls that only tell have changed something")
	}
}
