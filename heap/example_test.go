package heap_test

import (
	"fmt"
	"testing"

	"midden/api"
	"midden/heap"
)

// first is the heap of the chapter's first example.
func first(t *testing.T) *heap.Heap {
	t.Helper()
	h := begun(t, small(), 3)
	does(t, "example 1", h, alloc(0, 0, api.Plain, 1, 8, 5), "serial 1")
	for i := 2; i <= 5; i++ {
		does(t, "example 1", h, alloc(0, 1, api.Plain, 1, 8, 5), fmt.Sprint("serial ", i))
	}
	want(t, "example 1", h.View(), api.View{EdenRoom: 9, Young: 55, Tenured: 0, TenuredRoom: 100})
	does(t, "example 1", h, alloc(0, 1, api.Plain, 1, 8, 5), "serial 6 after [1]")
	return h
}

func TestExample1(t *testing.T) {
	h := first(t)
	want(t, "example 1", lies(h), "[1:6.0 3:1.1 3:5.1]")
	want(t, "example 1", h.View(), api.View{EdenRoom: 53, Young: 33, Tenured: 0, TenuredRoom: 100})
	want(t, "example 1: the threshold", h.Threshold(), 2)
}

func TestExample2(t *testing.T) {
	h := first(t)
	does(t, "example 2", h, store(0, 0, 0, 1), "")
	does(t, "example 2", h, copied(0, 1, -1), "")
	does(t, "example 2", h, load(0, 2, 0, 0), "")
	does(t, "example 2", h, shape(0, 2), "head {6 1 1 8 0 5 false}")
	does(t, "example 2", h, get(0, 2, 7), "")
	fails(t, "example 2", h, get(0, 2, 8), api.ErrHeapField)
}

func TestExample3(t *testing.T) {
	h := first(t)
	want(t, "example 3: the limit", h.Limit(), 50)
	does(t, "example 3", h, alloc(0, 1, api.Plain, 0, 62, 0), "serial 7 after [3]")
	want(t, "example 3: the limit", h.Limit(), 128)
	want(t, "example 3", h.View().TenuredRoom, 36)
	does(t, "example 3", h, alloc(0, 1, api.Plain, 0, 62, 0), "error 142 after [3]")
	does(t, "example 3: the slot stays", h, shape(0, 1), "head {7 1 0 62 0 0 false}")
	does(t, "example 3", h, copied(0, 1, -1), "")
	does(t, "example 3", h, alloc(0, 1, api.Plain, 0, 62, 0), "serial 8 after [3]")
}

func TestExample4(t *testing.T) {
	h := first(t)
	does(t, "example 4", h, pop(0), "")
	does(t, "example 4", h, major(), "after [3]")
	want(t, "example 4", lies(h), "[]")
	want(t, "example 4", h.View(), api.View{EdenRoom: 64, TenuredRoom: 100})
}
