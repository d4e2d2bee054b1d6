package heap_test

import (
	"testing"

	"midden/api"
)

// every tells each operation that names a slot, with this one in each of the places where one is named; the slot 0 is null, and the slot 1 holds an object with a field of each kind.
func every(thread, slot int) []api.Op {
	return []api.Op{
		alloc(thread, slot, api.Plain, 0, 0, 0), load(thread, slot, 1, 0), load(thread, 0, slot, 0), store(thread, slot, 0, 1), store(thread, 1, 0, slot), get(thread, slot, 0), put(thread, slot, 0, 1),
		copied(thread, slot, 1), copied(thread, 0, slot), same(thread, slot, 1), same(thread, 1, slot), shape(thread, slot), opened(thread, slot), fetch(thread, slot, 0), take(thread, slot),
	}
}

// TestSlotErrors: of thread, frame and slot, ahead of all others.
func TestSlotErrors(t *testing.T) {
	c := small()
	c.Threads = 2
	h := begun(t, c, 2)
	does(t, "P14.6", h, alloc(0, 1, api.Plain, 1, 1, 0), "serial 1")
	does(t, "P14.5", h, opened(0, 1), "")
	for _, slot := range append([]int{2, 8}, odd...) {
		for _, o := range every(0, slot) {
			fails(t, "P14.3: no such slot", h, o, api.ErrRootsSlot)
		}
		for _, o := range every(1, slot) {
			fails(t, "P14.3: no frame", h, o, api.ErrRootsFrame)
		}
	}
	for _, thread := range append([]int{2, -1}, odd...) {
		for _, o := range append(every(thread, 9), append(every(thread, -1), push(thread, 0), pop(thread))...) {
			fails(t, "P14.3: no such thread", h, o, api.ErrRootsThread)
		}
	}
	for _, o := range every(1, -1) {
		fails(t, "P14.3: -1 has ErrRootsFrame", h, o, api.ErrRootsFrame)
	}
}

// TestNoSlot: -1 is null where it is allowed, and no slot where it isn't.
func TestNoSlot(t *testing.T) {
	h := begun(t, small(), 3)
	does(t, "P14.6", h, alloc(0, 1, api.Plain, 1, 1, 0), "serial 1")
	does(t, "P14.5", h, opened(0, 1), "")
	allowed := map[api.Op]int{copied(0, 0, -1): 1, store(0, 1, 0, -1): 1}
	for _, o := range every(0, -1) {
		if allowed[o] == 0 {
			fails(t, "P14.3: -1 isn't allowed", h, o, api.ErrRootsSlot)
		}
	}
	does(t, "P14.3", h, copied(0, 0, 1), "")
	does(t, "P14.3", h, copied(0, 0, -1), "")
	does(t, "P14.3: null", h, same(0, 0, 2), "yes ")
	does(t, "P14.4", h, store(0, 1, 0, 1), "")
	does(t, "P14.4", h, store(0, 1, 0, -1), "")
	does(t, "P14.4", h, load(0, 2, 1, 0), "")
	fails(t, "P14.4: null was stored", h, shape(0, 2), api.ErrHeapNull)
}

func TestFrames(t *testing.T) {
	c := small()
	c.Threads = 2
	h := made(t, c)
	fails(t, "P14.3", h, pop(0), api.ErrRootsFrame)
	for _, n := range []int{0, -1, least} {
		fails(t, "P14.3", h, push(0, n), api.ErrRootsSize)
	}
	for _, n := range []int{9, 1 << 32, greatest} {
		fails(t, "P14.3", h, push(0, n), api.ErrRootsOverflow)
	}
	does(t, "P14.3", h, push(0, 3), "")
	does(t, "P14.3", h, alloc(0, 2, api.Plain, 0, 0, 0), "serial 1")
	does(t, "P14.3", h, push(0, 5), "")
	fails(t, "P14.3: all slots are taken", h, push(0, 1), api.ErrRootsOverflow)
	does(t, "P14.3: another thread has its own", h, push(1, 8), "")
	for slot := range 5 {
		fails(t, "P14.3: a new frame's slots are null", h, shape(0, slot), api.ErrHeapNull)
	}
	does(t, "P14.3", h, alloc(0, 4, api.Plain, 0, 0, 0), "serial 2")
	want(t, "P14.12: frames", h.Graph(true).Slots, [][][]int{{{0, 0, 1}, {0, 0, 0, 0, 2}}, {{0, 0, 0, 0, 0, 0, 0, 0}}})
	does(t, "P14.3", h, pop(0), "")
	does(t, "P14.3: the frame below stayed", h, shape(0, 2), "head {1 1 0 0 0 0 false}")
	want(t, "P14.3: nobody holds the other one", len(h.Graph(true).Objects), 1)
}

func TestCopyAndSame(t *testing.T) {
	h := begun(t, small(), 4)
	does(t, "P14.3: both null", h, same(0, 0, 1), "yes ")
	does(t, "P14.3", h, alloc(0, 0, api.Plain, 0, 1, 0), "serial 1")
	does(t, "P14.3: one null", h, same(0, 0, 1), "")
	does(t, "P14.3", h, alloc(0, 1, api.Plain, 0, 1, 0), "serial 2")
	does(t, "P14.3: alike aren't the same", h, same(0, 0, 1), "")
	does(t, "P14.3", h, copied(0, 2, 0), "")
	does(t, "P14.3", h, same(0, 0, 2), "yes ")
	does(t, "P14.3", h, copied(0, 2, 2), "")
	does(t, "P14.3: onto itself", h, same(0, 2, 0), "yes ")
	does(t, "P14.3", h, put(0, 2, 0, 9), "")
	does(t, "P14.3: it is one object", h, get(0, 0, 0), "word 9")
	does(t, "P14.3: of null", h, copied(0, 2, 3), "")
	does(t, "P14.3", h, same(0, 2, 3), "yes ")
	does(t, "P14.3", h, same(0, 3, 3), "yes ")
}

// TestShape: its age and whether it is remembered aren't told.
func TestShape(t *testing.T) {
	h := begun(t, small(), 3)
	fails(t, "P14.3", h, shape(0, 0), api.ErrHeapNull)
	does(t, "P14.3", h, alloc(0, 0, api.Ephemeron, 3, 4, 255), "serial 1")
	does(t, "P14.3", h, alloc(0, 1, api.Final, 1, 2, 7), "serial 2")
	for range 3 {
		does(t, "P14.3", h, shape(0, 0), "head {1 3 3 4 0 255 false}")
		does(t, "P14.3", h, shape(0, 1), "head {2 4 1 2 0 7 false}")
		does(t, "P14.7", h, minor(), "after [1]")
	}
	want(t, "P14.10: they are old", lies(h), "[4:1.3 4:2.3]")
	does(t, "P14.6", h, alloc(0, 2, api.Plain, 0, 0, 0), "serial 3")
	does(t, "P14.4", h, store(0, 0, 2, 2), "")
	for _, x := range h.Objects(api.SpaceTenured) {
		want(t, "P14.4: remset.Store", x.Held, x.Serial == 1)
	}
	does(t, "P14.3: it is held", h, shape(0, 0), "head {1 3 3 4 0 255 false}")
}
