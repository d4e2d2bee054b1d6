package heap_test

import (
	"testing"

	"midden/api"
)

func TestFieldErrors(t *testing.T) {
	h := begun(t, small(), 3)
	for _, o := range []api.Op{load(0, 1, 0, 0), store(0, 0, 0, 1), store(0, 0, 0, -1), get(0, 0, 0), put(0, 0, 0, 1), load(0, 0, 0, -5), store(0, 0, 9, 0), get(0, 0, -1), put(0, 0, 99, 1)} {
		fails(t, "P14.4: null is told ahead of the field", h, o, api.ErrHeapNull)
	}
	does(t, "P14.6", h, alloc(0, 0, api.Plain, 2, 3, 0), "serial 1")
	for _, field := range append([]int{-1, 5, 2}, odd...) {
		fails(t, "P14.4: pointer fields", h, load(0, 1, 0, field), api.ErrHeapField)
		fails(t, "P14.4: pointer fields", h, store(0, 0, field, 0), api.ErrHeapField)
		fails(t, "P14.4: pointer fields", h, store(0, 0, field, -1), api.ErrHeapField)
	}
	for _, field := range append([]int{-1, 5, 3}, odd...) {
		fails(t, "P14.4: raw fields", h, get(0, 0, field), api.ErrHeapField)
		fails(t, "P14.4: raw fields", h, put(0, 0, field, 7), api.ErrHeapField)
	}
	does(t, "P14.6", h, alloc(0, 1, api.Plain, 0, 0, 0), "serial 2")
	for _, o := range []api.Op{load(0, 2, 1, 0), store(0, 1, 0, 0), get(0, 1, 0), put(0, 1, 0, 1)} {
		fails(t, "P14.4: an object without fields", h, o, api.ErrHeapField)
	}
}

func TestRawFields(t *testing.T) {
	h := begun(t, small(), 3)
	does(t, "P14.6", h, alloc(0, 0, api.Weak, 1, 3, 0), "serial 1")
	does(t, "P14.6", h, alloc(0, 1, api.Plain, 0, 3, 0), "serial 2")
	words := []uint64{1<<64 - 1, 1, 1 << 63}
	for i, w := range words {
		does(t, "P14.4", h, get(0, 0, i), "")
		does(t, "P14.4", h, put(0, 0, i, w), "")
	}
	for i, w := range words {
		if got, e := h.Get(0, 0, i); got != w || e != api.OK {
			t.Errorf("P14.4: Get of %d: %d, %d", i, got, e)
		}
		does(t, "P14.4: another object's", h, get(0, 1, i), "")
	}
	does(t, "P14.4", h, put(0, 0, 1, 0), "")
	does(t, "P14.4", h, get(0, 0, 1), "")
	does(t, "P14.4: no pointer was written", h, load(0, 2, 0, 0), "")
	fails(t, "P14.4: no pointer was written", h, get(0, 2, 0), api.ErrHeapNull)
}

// TestPointerFields: of each kind, the weak ones and ephemerons' too; a field may hold its own object.
func TestPointerFields(t *testing.T) {
	for kind := api.Plain; kind <= api.Final; kind++ {
		h := begun(t, small(), 4)
		does(t, "P14.6", h, alloc(0, 0, kind, 3, 1, 0), "serial 1")
		does(t, "P14.6", h, alloc(0, 1, api.Plain, 0, 0, 0), "serial 2")
		for field := range 3 {
			does(t, "P14.4: it is null at first", h, load(0, 2, 0, field), "")
			does(t, "P14.4: it is null at first", h, same(0, 2, 3), "yes ")
			does(t, "P14.4", h, store(0, 0, field, 1), "")
			does(t, "P14.4", h, load(0, 2, 0, field), "")
			does(t, "P14.4", h, same(0, 2, 1), "yes ")
			does(t, "P14.4: itself", h, store(0, 0, field, 0), "")
			does(t, "P14.4: into its own slot", h, load(0, 0, 0, field), "")
			does(t, "P14.4: null, by a slot", h, store(0, 0, field, 3), "")
			does(t, "P14.4", h, load(0, 2, 0, field), "")
			does(t, "P14.4: null, by a slot", h, same(0, 2, 3), "yes ")
		}
		does(t, "P14.4: the raw field", h, get(0, 0, 0), "")
	}
}

// TestStoreIntoTenured: what a tenured object alone holds outlives a minor cycle, since it is remembered; when it holds that no more, the object is forgotten at the next cycle.
func TestStoreIntoTenured(t *testing.T) {
	h := begun(t, small(), 2)
	does(t, "P14.6", h, alloc(0, 0, api.Plain, 1, 0, 0), "serial 1")
	does(t, "P14.7", h, promote(), "after [2]")
	does(t, "P14.6", h, alloc(0, 1, api.Plain, 0, 1, 0), "serial 2")
	does(t, "P14.4", h, store(0, 0, 0, 1), "")
	does(t, "P14.3", h, copied(0, 1, -1), "")
	want(t, "P14.13: nothing is missing", h.Check(), true)
	does(t, "P14.7", h, minor(), "after [1]")
	want(t, "P14.4: remset.Store", lies(h), "[2:2.1 4:1.1]")
	does(t, "P14.4", h, store(0, 0, 0, -1), "")
	does(t, "P14.7", h, minor(), "after [1]")
	want(t, "P14.4", lies(h), "[4:1.1]")
	for _, x := range h.Objects(api.SpaceTenured) {
		want(t, "P14.10: it is pruned", x.Held, false)
	}
}
