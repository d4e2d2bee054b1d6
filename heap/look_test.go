package heap_test

import (
	"testing"

	"midden/api"
)

func TestObjects(t *testing.T) {
	h := first(t)
	for _, space := range append([]int{0, 5, -1}, odd...) {
		for at := range h.Objects(space) {
			t.Errorf("P14.11: Objects(%d) gives %d", space, at)
		}
	}
	l := h.Objects(api.SpaceB)
	for range 2 {
		n := 0
		for at, x := range l {
			want(t, "P14.11: addresses", at, 129+11*n)
			want(t, "P14.11: headers", x, api.Head{Serial: []uint64{1, 5}[n], Kind: api.Plain, Ptrs: 1, Raws: 8, Age: 1, Site: 5})
			n++
		}
		for range l {
			break
		}
		want(t, "P14.11: how many", n, 2)
	}
}

// TestViewOfAll: each number of it, with something in each space.
func TestViewOfAll(t *testing.T) {
	c := small()
	c.Large, c.Buffer = 20, 10
	h := begun(t, c, 4)
	does(t, "P14.6", h, alloc(0, 0, api.Plain, 0, 3, 0), "serial 1")
	does(t, "P14.7", h, minor(), "after [1]")
	does(t, "P14.6", h, alloc(0, 1, api.Plain, 0, 20, 0), "serial 2")
	does(t, "P14.6", h, alloc(0, 2, api.Plain, 0, 1, 0), "serial 3")
	does(t, "P14.6", h, alloc(0, 3, api.Plain, 0, 6, 0), "serial 4")
	want(t, "P14.11: fillers count as young", h.View(), api.View{EdenRoom: 44, Young: 25, Tenured: 22, TenuredRoom: 78})
	want(t, "P14.11: both buffers' rests", h.Fillers(), 9)
	does(t, "P14.7", h, major(), "after [3]")
	want(t, "P14.11: none is left", h.Fillers(), 0)
	want(t, "P14.11", h.View(), api.View{EdenRoom: 53, Young: 16, Tenured: 22, TenuredRoom: 78})
	want(t, "P14.11: the limit", h.Limit(), 50)
}

// TestLimit: max(Floor, base * Num / Den), of the base of the last major cycle.
func TestLimit(t *testing.T) {
	c := small()
	c.Large, c.Floor, c.Num, c.Den = 10, 25, 5, 3
	h := begun(t, c, 2)
	does(t, "P14.6", h, alloc(0, 0, api.Plain, 0, 18, 0), "serial 1")
	want(t, "P14.11: no major cycle has been run", h.Limit(), 25)
	does(t, "P14.7", h, major(), "after [3]")
	want(t, "P14.11: 20 * 5 / 3", h.Limit(), 33)
	does(t, "P14.3", h, copied(0, 0, -1), "")
	does(t, "P14.7", h, minor(), "after [1]")
	want(t, "P14.11: it stays", h.Limit(), 33)
	does(t, "P14.7", h, major(), "after [3]")
	want(t, "P14.11: the floor", h.Limit(), 25)
}

// TestLooking changes nothing.
func TestLooking(t *testing.T) {
	h := restored(t, small(), sample())
	h.Alloc(0, 0, api.Final, 1, 1, 1)
	is := state(h)
	for range 3 {
		want(t, "P14.11 to P14.13", state(h), is)
	}
}
