package heap_test

import (
	"fmt"
	"testing"

	"midden/api"
	"midden/heap"
)

func TestHandles(t *testing.T) {
	h := begun(t, small(), 3)
	for _, n := range append([]int{0, 1, 2, -1}, odd...) {
		fails(t, "P14.5: it isn't open", h, fetch(0, 0, n), api.ErrRootsHandle)
		fails(t, "P14.5: it isn't open", h, closing(n), api.ErrRootsHandle)
	}
	does(t, "P14.6", h, alloc(0, 0, api.Plain, 0, 0, 0), "serial 1")
	does(t, "P14.5: null, too", h, opened(0, 1), "")
	does(t, "P14.5", h, opened(0, 0), "handle 1")
	fails(t, "P14.5: all are open", h, opened(0, 0), api.ErrRootsHandles)
	fails(t, "P14.5: the slot is told first", h, opened(0, 3), api.ErrRootsSlot)
	does(t, "P14.5", h, copied(0, 0, -1), "")
	does(t, "P14.5", h, fetch(0, 2, 1), "")
	does(t, "P14.5", h, shape(0, 2), "head {1 1 0 0 0 0 false}")
	does(t, "P14.5: of null", h, fetch(0, 2, 0), "")
	does(t, "P14.5: of null", h, same(0, 2, 0), "yes ")
	fails(t, "P14.5: the slot is told first", h, fetch(0, 3, 7), api.ErrRootsSlot)
	does(t, "P14.5", h, closing(0), "")
	fails(t, "P14.5: it is closed", h, fetch(0, 0, 0), api.ErrRootsHandle)
	want(t, "P14.12: handles", h.Graph(true).Handles, []int{-1, 1})
	does(t, "P14.5: the least that isn't open", h, opened(0, 0), "")
	want(t, "P14.12: handles", h.Graph(true).Handles, []int{0, 1})
}

// TestHandleHolds: what a handle alone holds outlives all cycles, and is gone when it is closed.
func TestHandleHolds(t *testing.T) {
	h := begun(t, small(), 1)
	does(t, "P14.6", h, alloc(0, 0, api.Plain, 0, 1, 0), "serial 1")
	does(t, "P14.5", h, opened(0, 0), "")
	does(t, "P14.3", h, pop(0), "")
	for _, o := range []api.Op{minor(), major(), promote(), major()} {
		ask(h, o)
		want(t, "P14.10: a handle is a root", len(h.Graph(false).Objects), 1)
	}
	does(t, "P14.3", h, push(0, 1), "")
	does(t, "P14.5: where it went", h, fetch(0, 0, 0), "")
	does(t, "P14.5", h, shape(0, 0), "head {1 1 0 1 0 0 false}")
	does(t, "P14.3", h, copied(0, 0, -1), "")
	does(t, "P14.5", h, closing(0), "")
	does(t, "P14.7", h, major(), "after [3]")
	want(t, "P14.10", lies(h), "[]")
}

// finals makes a heap in whose queue these serials lie, all of its objects but those in slots.
func finals(t *testing.T, n int) *heap.Heap {
	t.Helper()
	h := begun(t, small(), 3)
	for i := range n {
		does(t, "P14.6", h, alloc(0, 0, api.Final, 1, 0, i), fmt.Sprint("serial ", i+1))
	}
	does(t, "P14.3", h, copied(0, 0, -1), "")
	does(t, "P14.7", h, major(), "after [3]")
	return h
}

func TestTake(t *testing.T) {
	h := finals(t, 4)
	g := h.Graph(true)
	want(t, "P14.10: the queue, in the registry's order", serials(g, g.Queue), []int{1, 2, 3, 4})
	want(t, "P14.10: the registry", g.Registry, []int{})
	for _, slot := range append([]int{-1, 3}, odd...) {
		fails(t, "P14.5: nothing is taken out", h, take(0, slot), api.ErrRootsSlot)
	}
	for i := range 4 {
		does(t, "P14.5", h, take(0, 1), "")
		does(t, "P14.5: the first, and its kind is Plain", h, shape(0, 1), fmt.Sprintf("head {%d 1 1 0 0 %d false}", i+1, i))
		want(t, "P14.5: it is out", len(h.Graph(true).Queue), 3-i)
	}
	fails(t, "P14.5", h, take(0, 1), api.ErrHeapEmpty)
	fails(t, "P14.5: the slot is told first", h, take(0, 3), api.ErrRootsSlot)
	does(t, "P14.3", h, copied(0, 1, -1), "")
	does(t, "P14.7", h, major(), "after [3]")
	want(t, "P14.10: none is queued again", lies(h), "[]")
}

// TestQueueHolds: what lies in the queue is held, with what it holds.
func TestQueueHolds(t *testing.T) {
	h := finals(t, 2)
	for _, o := range []api.Op{minor(), major(), promote(), major()} {
		ask(h, o)
		g := h.Graph(true)
		want(t, "P14.10: the queue is a root", serials(g, g.Queue), []int{1, 2})
	}
}
