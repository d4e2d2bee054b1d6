package roots_test

import (
	"slices"
	"testing"

	"midden/api"
	"midden/roots"
)

func TestNewRefuses(t *testing.T) {
	wrong := [][3]int{{0, 1, 0}, {9, 1, 0}, {1, 0, 0}, {1, 4097, 0}, {1, 1, -1}, {1, 1, 1025}, {0, 0, -1}, {9, 4097, 1025}}
	for _, n := range odd {
		wrong = append(wrong, [3]int{n, 1, 0}, [3]int{1, n, 0}, [3]int{1, 1, n}, [3]int{n, n, n})
	}
	for _, c := range wrong {
		if r, e := roots.New(c[0], c[1], c[2]); r != nil || e != api.ErrRootsSize {
			t.Errorf("P5.1: New(%v): %v, error %d", c, r != nil, e)
		}
	}
}

// TestNewMakes: all numbers that may be, with nothing in what they make.
func TestNewMakes(t *testing.T) {
	for threads := 1; threads <= 8; threads++ {
		for _, slots := range []int{1, 2, 4095, 4096} {
			for _, handles := range []int{0, 1, 1023, 1024} {
				r := made(t, threads, slots, handles)
				want(t, "P5.1: what is made", told(r, threads), modelled(threads, slots, handles).told())
				at, ok := r.Dequeue()
				want(t, "P5.1: the queue is empty", []any{at, ok}, []any{0, false})
				want(t, "P5.1: the last thread, and behind it", []api.Errno{r.Push(threads-1, slots), r.Push(threads, 1)}, []api.Errno{api.OK, api.ErrRootsThread})
				want(t, "P5.2: no more slots than that", r.Push(threads-1, 1), api.ErrRootsOverflow)
				want(t, "P5.1: all handles", openable(r), handles)
			}
		}
	}
}

// openable tells how many handles can be opened.
func openable(r *roots.Roots) int {
	for n := 0; ; n++ {
		if h, e := r.Open(1); h != n || e != api.OK {
			return n
		}
	}
}

func TestPushErrors(t *testing.T) {
	r := made(t, 2, 10, 0)
	push(t, r, 1, 4, 3)
	for _, c := range []struct {
		thread, n int
		e         api.Errno
	}{
		{2, 1, api.ErrRootsThread}, {-1, 1, api.ErrRootsThread}, {2, 0, api.ErrRootsThread}, {-1, 11, api.ErrRootsThread},
		{1, 0, api.ErrRootsSize}, {1, -1, api.ErrRootsSize}, {0, least, api.ErrRootsSize}, {1, least, api.ErrRootsSize},
		{1, 4, api.ErrRootsOverflow}, {0, 11, api.ErrRootsOverflow}, {1, most, api.ErrRootsOverflow}, {1, most - 6, api.ErrRootsOverflow},
		{1, 1 << 32, api.ErrRootsOverflow},
	} {
		if e := r.Push(c.thread, c.n); e != c.e {
			t.Errorf("P5.2: Push(%d, %d): error %d, want %d", c.thread, c.n, e, c.e)
		}
	}
	want(t, "P5.2: a refused frame isn't made", []any{r.Frames(0), r.Frames(1)}, "[[] [4 3]]")
	want(t, "P5.2: just so many", []api.Errno{r.Push(1, 3), r.Push(1, 1)}, []api.Errno{api.OK, api.ErrRootsOverflow})
	want(t, "P5.2: the other thread has its own", r.Push(0, 10), api.OK)
}

func TestPopErrors(t *testing.T) {
	r := made(t, 2, 10, 0)
	push(t, r, 1, 4, 3)
	for _, th := range odd {
		want(t, "P5.2: Pop", r.Pop(th), api.ErrRootsThread)
	}
	want(t, "P5.2: Pop", []api.Errno{r.Pop(2), r.Pop(0)}, []api.Errno{api.ErrRootsThread, api.ErrRootsFrame})
	want(t, "P5.2: Frames", r.Frames(1), []int{4, 3})
	want(t, "P5.2: Pop", []api.Errno{r.Pop(1), r.Pop(1), r.Pop(1), r.Pop(1)}, []api.Errno{api.OK, api.OK, api.ErrRootsFrame, api.ErrRootsFrame})
	want(t, "P5.2: Frames", r.Frames(1), []int{})
}

// TestFrames: one above the other, and what a popped one had is free again.
func TestFrames(t *testing.T) {
	r := made(t, 1, 6, 0)
	for range 3 {
		push(t, r, 0, 1, 3, 2)
		want(t, "P5.2: Frames", r.Frames(0), []int{1, 3, 2})
		want(t, "P5.2: full", r.Push(0, 1), api.ErrRootsOverflow)
		r.Pop(0)
		want(t, "P5.2: Frames", r.Frames(0), []int{1, 3})
		push(t, r, 0, 1, 1)
		want(t, "P5.2: Frames", r.Frames(0), []int{1, 3, 1, 1})
		for range 4 {
			r.Pop(0)
		}
		want(t, "P5.2: Frames", r.Frames(0), []int{})
	}
	for _, th := range append(odd, 1) {
		want(t, "P5.2: Frames of no thread", len(r.Frames(th)), 0)
	}
}

// TestManyFrames: as many as there may be slots.
func TestManyFrames(t *testing.T) {
	r := made(t, 8, 4096, 0)
	for th := range 8 {
		push(t, r, th, slices.Repeat([]int{1}, 4096)...)
		r.Set(th, 0, th+1)
	}
	for th := range 8 {
		want(t, "P5.2", r.Push(th, 1), api.ErrRootsOverflow)
		want(t, "P5.2: Frames", len(r.Frames(th)), 4096)
	}
	want(t, "P5.6: All", r.All(), []int{1, 2, 3, 4, 5, 6, 7, 8})
}

// TestSlotErrors: Get and Set refuse the same, in the same order.
func TestSlotErrors(t *testing.T) {
	r := made(t, 3, 10, 0)
	frame(t, r, 0, 5, 6, 7)
	frame(t, r, 0, 8, 9)
	frame(t, r, 2, 1)
	type place struct{ thread, slot int }
	cases := map[place]api.Errno{
		{3, 0}: api.ErrRootsThread, {-1, 0}: api.ErrRootsThread, {3, -1}: api.ErrRootsThread,
		{1, 0}: api.ErrRootsFrame, {1, -1}: api.ErrRootsFrame, {1, 99}: api.ErrRootsFrame,
		{0, 2}: api.ErrRootsSlot, {0, -1}: api.ErrRootsSlot, {0, 4}: api.ErrRootsSlot, {2, 1}: api.ErrRootsSlot,
	}
	for _, n := range odd {
		cases[place{n, n}] = api.ErrRootsThread
		cases[place{1, n}] = api.ErrRootsFrame
		cases[place{0, n}] = api.ErrRootsSlot
	}
	ahead := told(r, 3)
	for p, e := range cases {
		at, got := r.Get(p.thread, p.slot)
		want(t, "P5.3: Get", []any{p, at, int(got)}, []any{p, 0, int(e)})
		want(t, "P5.3: Set", []any{p, int(r.Set(p.thread, p.slot, 77))}, []any{p, int(e)})
	}
	want(t, "P5.3: what is refused changes nothing", told(r, 3), ahead)
}

// TestSlots: those of the top frame alone, each for itself.
func TestSlots(t *testing.T) {
	r := made(t, 2, 10, 0)
	frame(t, r, 0, 5, 6, 7)
	frame(t, r, 0, 8, 9)
	want(t, "P5.3: top", top(r, 0), []int{8, 9})
	want(t, "P5.3: Set", r.Set(0, 1, 10), api.OK)
	want(t, "P5.3: top", top(r, 0), []int{8, 10})
	want(t, "P5.3: Set", []api.Errno{r.Set(0, 0, 3), r.Set(0, 0, 4)}, []api.Errno{api.OK, api.OK})
	want(t, "P5.7: the last one stays", top(r, 0), []int{4, 10})
	push(t, r, 0, 1)
	want(t, "P5.2: all null", top(r, 0), []int{0})
	r.Pop(0)
	want(t, "P5.7: a lower frame waits unchanged", top(r, 0), []int{4, 10})
	r.Pop(0)
	want(t, "P5.7: a lower frame waits unchanged", top(r, 0), []int{5, 6, 7})
	r.Pop(0)
	want(t, "P5.3: no frame", top(r, 0), []int{})
}

// TestAddresses: every number counts, but one below 0 counts as 0.
func TestAddresses(t *testing.T) {
	r := made(t, 1, 1, 1)
	push(t, r, 0, 1)
	for _, at := range append(odd, 0, 1, 2) {
		held := max(at, 0)
		want(t, "Set", r.Set(0, 0, at), api.OK)
		want(t, "below 0 is null: Set", top(r, 0), []int{held})
		h, e := r.Open(at)
		want(t, "Open", []int{h, int(e)}, []int{0, 0})
		want(t, "below 0 is null: Open", r.Handles(), []int{held})
		r.Close(0)
		r.Enqueue(at)
		want(t, "below 0 is null: Enqueue", r.Queue(), []int{held})
		r.Dequeue()
		r.Set(0, 0, 1)
		r.Update(func(int) int { return at })
		want(t, "below 0 is null: Update", top(r, 0), []int{held})
	}
}

// TestFrameAnew: a frame that is pushed again holds nothing of the one that stood there.
func TestFrameAnew(t *testing.T) {
	r := made(t, 2, 8, 0)
	frame(t, r, 0, 1, 2)
	frame(t, r, 0, 3, 4, 5, 6, 7, 8)
	r.Pop(0)
	push(t, r, 0, 4)
	want(t, "P5.7", top(r, 0), []int{0, 0, 0, 0})
	push(t, r, 0, 2)
	want(t, "P5.7", top(r, 0), []int{0, 0})
	want(t, "P5.7: All", r.All(), []int{1, 2})
	for range 3 {
		r.Pop(0)
	}
	push(t, r, 0, 8)
	want(t, "P5.7", top(r, 0), []int{0, 0, 0, 0, 0, 0, 0, 0})
}

// TestThreadsApart: what one thread does is nothing to another, to handles and to the queue.
func TestThreadsApart(t *testing.T) {
	r := filled(t)
	want(t, "P5.7", []any{top(r, 0), top(r, 1), top(r, 2), r.Handles(), r.Queue()}, "[[14 15] [] [0 33] [51 0 53 -1] [71 0 73]]")
	frame(t, r, 1, 21, 22)
	r.Set(1, 1, 23)
	want(t, "P5.7: thread 1 is gone through", []any{top(r, 0), top(r, 1), top(r, 2), r.Handles(), r.Queue()}, "[[14 15] [21 23] [0 33] [51 0 53 -1] [71 0 73]]")
	r.Close(0)
	open(t, r, 61, 62)
	want(t, "P5.7: handles are gone through", []any{top(r, 0), top(r, 1), top(r, 2), r.Handles(), r.Queue()}, "[[14 15] [21 23] [0 33] [61 0 53 62] [71 0 73]]")
	r.Dequeue()
	enqueue(r, 81)
	want(t, "P5.7: the queue is gone through", []any{top(r, 0), top(r, 1), top(r, 2), r.Handles(), r.Queue()}, "[[14 15] [21 23] [0 33] [61 0 53 62] [0 73 81]]")
	r.Pop(1)
	r.Pop(2)
	want(t, "P5.7: frames are popped", []any{top(r, 0), top(r, 1), top(r, 2), r.Handles(), r.Queue()}, "[[14 15] [] [31] [61 0 53 62] [0 73 81]]")
}

// TestRootsApart: two that are made know nothing of each other.
func TestRootsApart(t *testing.T) {
	r, other := filled(t), filled(t)
	ahead := told(other, 3)
	frame(t, r, 1, 1, 2)
	r.Set(0, 0, 9)
	open(t, r, 9)
	r.Close(0)
	enqueue(r, 9)
	r.Update(func(at int) int { return at + 1000 })
	want(t, "P5.7", told(other, 3), ahead)
}
