package heap_test

import (
	"fmt"
	"testing"

	"midden/api"
)

// TestAllocErrors: cell.Pack's, in its order; behind the slot's, ahead of the serials'.
func TestAllocErrors(t *testing.T) {
	rows := []struct {
		kind, ptrs, raws, site int
		e                      api.Errno
	}{
		{0, 0, 0, 0, api.ErrCellKind}, {5, -1, -1, -1, api.ErrCellKind}, {-1, 0, 0, 0, api.ErrCellKind}, {greatest, 0, 0, 0, api.ErrCellKind},
		{api.Weak, 0, -1, 0, api.ErrCellKind}, {api.Ephemeron, 1, 0, 300, api.ErrCellKind}, {api.Ephemeron, 0, 0, 0, api.ErrCellKind},
		{api.Plain, -1, -1, 0, api.ErrCellPtrs}, {api.Final, 4096, 65536, 0, api.ErrCellPtrs}, {api.Plain, least, 0, 0, api.ErrCellPtrs}, {api.Plain, greatest, greatest, 0, api.ErrCellPtrs},
		{api.Plain, 0, -1, -1, api.ErrCellRaws}, {api.Plain, 0, 65536, 256, api.ErrCellRaws}, {api.Plain, 0, greatest, 0, api.ErrCellRaws},
		{api.Plain, 0, 0, -1, api.ErrCellSite}, {api.Plain, 0, 65535, 256, api.ErrCellSite}, {api.Weak, 1, 0, least, api.ErrCellSite},
	}
	full := restored(t, small(), api.Graph{Next: api.MaxSerial + 1, Slots: [][][]int{{{0}}}, Handles: []int{-1, -1}})
	for _, r := range rows {
		h := begun(t, small(), 2)
		fails(t, "P14.6", h, alloc(0, 0, r.kind, r.ptrs, r.raws, r.site), r.e)
		fails(t, "P14.6: the slot is told first", h, alloc(0, 2, r.kind, r.ptrs, r.raws, r.site), api.ErrRootsSlot)
		fails(t, "P14.6: the serials are told last", full, alloc(0, 0, r.kind, r.ptrs, r.raws, r.site), r.e)
	}
	fails(t, "P14.6: used up", full, alloc(0, 0, api.Plain, 0, 0, 0), api.ErrHeapSerial)
	fails(t, "P14.6: ahead of want of room", full, alloc(0, 0, api.Plain, 0, 65535, 0), api.ErrHeapSerial)
}

// TestSerials rise by 1, for objects that were made alone, up to the last one.
func TestSerials(t *testing.T) {
	h := begun(t, small(), 1)
	for i := 1; i <= 300; i++ {
		x := ask(h, alloc(0, 0, api.Plain, 0, i%20, 0))
		want(t, "P14.6: the serial", fmt.Sprint(x.serial, int(x.err)), fmt.Sprint(i, 0))
		want(t, "P14.12: Next", h.Graph(true).Next, i+1)
		h.Alloc(0, 0, api.Plain, 0, 65535, 0)
		h.Alloc(0, 0, api.Plain, -1, 0, 0)
		want(t, "P14.6: none is spent where it fails", h.Graph(true).Next, i+1)
	}
	h = restored(t, small(), api.Graph{Next: api.MaxSerial - 1, Slots: [][][]int{{{0}}}, Handles: []int{-1, -1}})
	does(t, "P14.6", h, alloc(0, 0, api.Plain, 0, 0, 0), fmt.Sprint("serial ", uint64(api.MaxSerial-1)))
	does(t, "P14.6: the last one", h, alloc(0, 0, api.Plain, 0, 0, 0), fmt.Sprint("serial ", uint64(api.MaxSerial)))
	fails(t, "P14.6", h, alloc(0, 0, api.Plain, 0, 0, 0), api.ErrHeapSerial)
	fails(t, "P14.6", h, alloc(0, 0, api.Plain, 0, 0, 0), api.ErrHeapSerial)
}

// TestObjectMade: its header, and its fields in words that were used before.
func TestObjectMade(t *testing.T) {
	for _, buffer := range []int{0, 20} {
		c := small()
		c.Buffer = buffer
		h := begun(t, c, 2)
		for i := range 40 {
			kind := 1 + i%4
			x := ask(h, alloc(0, i%2, kind, 2, 3, 200+i))
			want(t, "P14.6", x.err, api.OK)
			does(t, "P14.6: it lies in the slot", h, shape(0, i%2), fmt.Sprint("head ", api.Head{Serial: uint64(i + 1), Kind: kind, Ptrs: 2, Raws: 3, Site: 200 + i}))
			g := h.Graph(true)
			o := g.Objects[len(g.Objects)-1]
			want(t, "P14.6: all fields are 0", fmt.Sprint(o.Ptrs, o.Raws), "[0 0] [0 0 0]")
			for j := range 3 {
				h.Put(0, i%2, j, 1<<64-1)
			}
			h.Store(0, i%2, 0, i%2)
			h.Store(0, i%2, 1, i%2)
		}
	}
}

// TestRegistry: Final ones alone, each at its end.
func TestRegistry(t *testing.T) {
	h := begun(t, small(), 3)
	for i, kind := range []int{api.Final, api.Plain, api.Final, api.Weak, api.Final, api.Ephemeron} {
		does(t, "P14.6", h, alloc(0, i%2, kind, 2, 0, 0), fmt.Sprint("serial ", i+1))
	}
	g := h.Graph(true)
	want(t, "P14.6: the registry", serials(g, g.Registry), []int{1, 3, 5})
	does(t, "P14.6: a big one", h, alloc(0, 2, api.Final, 0, 65, 0), "serial 7 after [3]")
	g = h.Graph(true)
	want(t, "P14.6: the registry", serials(g, g.Registry), []int{5, 7})
	want(t, "P14.10: the queue", serials(g, g.Queue), []int{1, 3})
}

// TestBig: at the edges: Large, and one less; eden, and one more.
func TestBig(t *testing.T) {
	for _, x := range []struct{ large, words, space int }{{20, 19, 1}, {20, 20, 4}, {65536, 64, 1}, {65536, 65, 4}, {2, 2, 4}, {3, 2, 1}} {
		c := small()
		c.Large, c.Floor = x.large, 100
		h := begun(t, c, 1)
		does(t, "P14.6", h, alloc(0, 0, api.Plain, 0, x.words-2, 0), "serial 1")
		want(t, fmt.Sprint("P14.6: where one of ", x.words, " words lies"), lies(h), fmt.Sprintf("[%d:1.0]", x.space))
	}
}

// TestBigAtLimit: up to the limit without a cycle, one word more behind a major one.
func TestBigAtLimit(t *testing.T) {
	c := small()
	c.Large = 10
	h := begun(t, c, 3)
	does(t, "P14.6", h, alloc(0, 0, api.Plain, 0, 18, 0), "serial 1")
	does(t, "P14.6: at the limit", h, alloc(0, 1, api.Plain, 0, 28, 0), "serial 2")
	does(t, "P14.6: above it", h, alloc(0, 2, api.Plain, 0, 8, 0), "serial 3 after [3]")
	want(t, "P14.9: the base is what was tenured at the end", h.Limit(), 120)
	does(t, "P14.6: room for all but one word", h, alloc(0, 2, api.Plain, 0, 39, 0), "error 142 after [3]")
	want(t, "P14.9: the base, where it fails", h.Limit(), 120)
	does(t, "P14.6: the slot stays", h, shape(0, 2), "head {3 1 0 8 0 0 false}")
	does(t, "P14.6: all the room", h, alloc(0, 2, api.Plain, 0, 38, 0), "serial 4")
	want(t, "P14.11", h.View().TenuredRoom, 0)
}

// TestThreadsBuffers: an allocation's room is that of its thread's buffer, too.
func TestThreadsBuffers(t *testing.T) {
	c := small()
	c.Threads, c.Buffer = 2, 32
	h := begun(t, c, 2)
	does(t, "P14.3", h, push(1, 2), "")
	does(t, "P14.6", h, alloc(0, 0, api.Plain, 0, 0, 0), "serial 1")
	does(t, "P14.6", h, alloc(1, 0, api.Plain, 0, 0, 0), "serial 2")
	want(t, "P14.11: eden's free words alone", h.View(), api.View{EdenRoom: 0, Young: 64, TenuredRoom: 100})
	want(t, "P14.11: Fillers", h.Fillers(), 60)
	does(t, "P14.9: into the buffer", h, alloc(0, 1, api.Plain, 0, 28, 0), "serial 3")
	does(t, "P14.9: nothing is left of it", h, alloc(0, 1, api.Plain, 0, 0, 0), "serial 4 after [1]")
	want(t, "P14.10: all buffers are retired", lies(h), "[1:4.0 3:1.1 3:3.1 3:2.1]")
	does(t, "P14.9: the other thread's, anew", h, alloc(1, 1, api.Plain, 0, 28, 0), "serial 5")
	want(t, "P14.6: where it lies", lies(h), "[1:4.0 1:5.0 3:1.1 3:3.1 3:2.1]")
}

// TestAllocFails: only behind a major cycle; the slot and what it holds stay.
func TestAllocFails(t *testing.T) {
	for _, words := range []int{101, 200, 65537, 4095 + 65537} {
		h := begun(t, small(), 2)
		does(t, "P14.6", h, alloc(0, 0, api.Plain, 0, 0, 0), "serial 1")
		ptrs := max(0, words-65537)
		does(t, "P14.6", h, alloc(0, 0, api.Plain, ptrs, words-2-ptrs, 0), "error 142 after [3]")
		does(t, "P14.6: the slot stays", h, shape(0, 0), "head {1 1 0 0 0 0 false}")
		want(t, "P14.12: Next", h.Graph(true).Next, 2)
		want(t, "P14.13", h.Check(), true)
	}
}
