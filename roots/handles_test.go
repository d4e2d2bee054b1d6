package roots_test

import (
	"math"
	"slices"
	"testing"

	"midden/api"
)

// TestOpenLeast: the least one that isn't open, whatever was closed and in what order.
func TestOpenLeast(t *testing.T) {
	r := made(t, 1, 1, 5)
	open(t, r, 10, 11, 12, 13, 14)
	want(t, "P5.4: Handles", r.Handles(), []int{10, 11, 12, 13, 14})
	for _, h := range []int{3, 1, 4} {
		want(t, "P5.4: Close", r.Close(h), api.OK)
	}
	want(t, "P5.4: Handles", r.Handles(), []int{10, -1, 12, -1, -1})
	for i, h := range []int{1, 3, 4} {
		got, e := r.Open(20 + i)
		want(t, "P5.4: Open", []int{got, int(e)}, []int{h, 0})
	}
	want(t, "P5.4: Handles", r.Handles(), []int{10, 20, 12, 21, 22})
	h, e := r.Open(30)
	want(t, "P5.4: all are open", []int{h, int(e)}, []int{0, int(api.ErrRootsHandles)})
	want(t, "P5.4: what is refused changes nothing", r.Handles(), []int{10, 20, 12, 21, 22})
}

// TestNullHandle: one that holds null is open.
func TestNullHandle(t *testing.T) {
	r := made(t, 1, 1, 2)
	open(t, r, 0)
	want(t, "P5.4: Handles", r.Handles(), []int{0, -1})
	at, e := r.Handle(0)
	want(t, "P5.4: Handle", []int{at, int(e)}, []int{0, 0})
	h, e := r.Open(0)
	want(t, "P5.4: Open", []int{h, int(e)}, []int{1, 0})
	want(t, "P5.4: Close", []api.Errno{r.Close(0), r.Close(0)}, []api.Errno{api.OK, api.ErrRootsHandle})
	want(t, "P5.4: Handles", r.Handles(), []int{-1, 0})
}

func TestHandleErrors(t *testing.T) {
	r := made(t, 1, 1, 3)
	open(t, r, 7, 8, 9)
	r.Close(1)
	for _, h := range append(odd, 1, 3, 1023, 1024, 4096) {
		at, e := r.Handle(h)
		want(t, "P5.4: Handle", []any{h, at, int(e)}, []any{h, 0, int(api.ErrRootsHandle)})
		want(t, "P5.4: Close", []any{h, int(r.Close(h))}, []any{h, int(api.ErrRootsHandle)})
	}
	want(t, "P5.4: what is refused changes nothing", r.Handles(), []int{7, -1, 9})
	for h, held := range map[int]int{0: 7, 2: 9} {
		at, e := r.Handle(h)
		want(t, "P5.4: Handle", []int{at, int(e)}, []int{held, 0})
	}
}

// TestNoHandles: where there are none, none can be opened.
func TestNoHandles(t *testing.T) {
	r := made(t, 1, 1, 0)
	h, e := r.Open(1)
	want(t, "P5.4: Open", []int{h, int(e)}, []int{0, int(api.ErrRootsHandles)})
	_, e = r.Handle(0)
	want(t, "P5.4", []api.Errno{e, r.Close(0)}, []api.Errno{api.ErrRootsHandle, api.ErrRootsHandle})
	want(t, "P5.4: Handles", r.Handles(), []int{})
}

// TestHandlesMost: as many as there may be.
func TestHandlesMost(t *testing.T) {
	r := made(t, 1, 1, 1024)
	for i := range 1024 {
		h, e := r.Open(math.MaxInt - i)
		want(t, "P5.4: Open", []int{h, int(e)}, []int{i, 0})
	}
	_, e := r.Open(1)
	want(t, "P5.4: Open", e, api.ErrRootsHandles)
	at, e := r.Handle(1023)
	want(t, "P5.4: the last one", []int{at, int(e)}, []int{math.MaxInt - 1023, 0})
	want(t, "P5.4: Close", []api.Errno{r.Close(1023), r.Close(512)}, []api.Errno{api.OK, api.OK})
	for _, least := range []int{512, 1023} {
		h, e := r.Open(1)
		want(t, "P5.4: Open", []int{h, int(e)}, []int{least, 0})
	}
}

func TestQueue(t *testing.T) {
	r := made(t, 1, 1, 0)
	for range 3 {
		enqueue(r, 5, 0, 5, 0)
		want(t, "P5.5: Queue", r.Queue(), []int{5, 0, 5, 0})
		for _, held := range []int{5, 0, 5, 0} {
			at, ok := r.Dequeue()
			want(t, "P5.5: Dequeue", []any{at, ok}, []any{held, true})
		}
		at, ok := r.Dequeue()
		want(t, "P5.5: Dequeue of nothing", []any{at, ok}, []any{0, false})
		want(t, "P5.5: Queue", r.Queue(), []int{})
	}
	enqueue(r, 1)
	want(t, "P5.5: behind a Dequeue of nothing", r.Queue(), []int{1})
}

// TestQueueUnbound: it takes more than all slots and handles that there may be.
func TestQueueUnbound(t *testing.T) {
	const many = 100000
	r := made(t, 1, 1, 0)
	var all []int
	for i := range many {
		r.Enqueue(i + 1)
		all = append(all, i+1)
	}
	if !slices.Equal(r.Queue(), all) || !slices.Equal(r.All(), all) {
		t.Errorf("P5.5: Queue: %d, All: %d, want %d", len(r.Queue()), len(r.All()), many)
	}
	for i := range many {
		if at, ok := r.Dequeue(); at != i+1 || !ok {
			t.Fatalf("P5.5: Dequeue: %d, %v, want %d", at, ok, i+1)
		}
	}
}
