package cell_test

import (
	"testing"

	"midden/api"
	"midden/cell"
)

func TestPackLaysBits(t *testing.T) {
	zero := api.Head{Kind: api.Plain}
	for _, c := range []struct {
		what   string
		change func(*api.Head)
		bits   uint64
	}{
		{"plain", func(h *api.Head) {}, 0b101},
		{"weak", func(h *api.Head) { h.Kind, h.Ptrs = api.Weak, 1 }, 0b1001 | 1<<18},
		{"ephemeron", func(h *api.Head) { h.Kind, h.Ptrs = api.Ephemeron, 2 }, 0b1101 | 2<<18},
		{"final", func(h *api.Head) { h.Kind = api.Final }, 0b10001},
		{"held", func(h *api.Head) { h.Held = true }, 0b100101},
		{"age 1", func(h *api.Head) { h.Age = 1 }, 0b101 | 1<<6},
		{"age 15", func(h *api.Head) { h.Age = 15 }, 0b101 | 15<<6},
		{"site 1", func(h *api.Head) { h.Site = 1 }, 0b101 | 1<<10},
		{"site 255", func(h *api.Head) { h.Site = 255 }, 0b101 | 255<<10},
		{"ptrs 1", func(h *api.Head) { h.Ptrs = 1 }, 0b101 | 1<<18},
		{"ptrs 4095", func(h *api.Head) { h.Ptrs = 4095 }, 0b101 | 4095<<18},
		{"raws 1", func(h *api.Head) { h.Raws = 1 }, 0b101 | 1<<30},
		{"raws 65535", func(h *api.Head) { h.Raws = 65535 }, 0b101 | 65535<<30},
	} {
		h := zero
		c.change(&h)
		if w := pack(t, h); w != c.bits {
			t.Errorf("P2.1: %s: %#x, want %#x", c.what, w, c.bits)
		}
	}
}

func TestSerialIsNotLookedAt(t *testing.T) {
	for _, serial := range []uint64{0, 1, api.MaxSerial, api.MaxSerial + 1, 1<<64 - 1} {
		h := api.Head{Serial: serial, Kind: api.Weak, Ptrs: 3, Raws: 4, Age: 5, Site: 6}
		w := pack(t, h)
		if w != asked(h) {
			t.Errorf("P2.2: the serial %d: %#x, want %#x", serial, w, asked(h))
		}
		if g, ok := cell.Unpack(w); !ok || g.Serial != 0 {
			t.Errorf("P2.5: the serial that Unpack tells: %d, %v, want 0", g.Serial, ok)
		}
	}
}

func TestPackRefusesInOrder(t *testing.T) {
	for _, c := range []struct {
		h api.Head
		e api.Errno
	}{
		{api.Head{}, api.ErrCellKind},
		{api.Head{Kind: -1, Ptrs: -1, Raws: -1, Age: -1, Site: -1}, api.ErrCellKind},
		{api.Head{Kind: 5}, api.ErrCellKind},
		{api.Head{Kind: 8 + api.Plain}, api.ErrCellKind},
		{api.Head{Kind: 1 << 32}, api.ErrCellKind},
		{api.Head{Kind: 1<<63 - 1}, api.ErrCellKind},
		{api.Head{Kind: -1 << 63}, api.ErrCellKind},
		{api.Head{Kind: api.Weak}, api.ErrCellKind},
		{api.Head{Kind: api.Weak, Ptrs: -1, Raws: -1}, api.ErrCellKind},
		{api.Head{Kind: api.Ephemeron}, api.ErrCellKind},
		{api.Head{Kind: api.Ephemeron, Ptrs: 1, Age: 16}, api.ErrCellKind},
		{api.Head{Kind: api.Ephemeron, Ptrs: -1 << 63}, api.ErrCellKind},
		{api.Head{Kind: api.Plain, Ptrs: -1, Raws: -1, Age: -1, Site: -1}, api.ErrCellPtrs},
		{api.Head{Kind: api.Final, Ptrs: -1}, api.ErrCellPtrs},
		{api.Head{Kind: api.Weak, Ptrs: 4096}, api.ErrCellPtrs},
		{api.Head{Kind: api.Ephemeron, Ptrs: 1<<63 - 1, Raws: 65536}, api.ErrCellPtrs},
		{api.Head{Kind: api.Plain, Raws: -1, Age: -1, Site: -1}, api.ErrCellRaws},
		{api.Head{Kind: api.Weak, Ptrs: 1, Raws: 65536, Age: 16}, api.ErrCellRaws},
		{api.Head{Kind: api.Plain, Age: -1, Site: -1}, api.ErrCellAge},
		{api.Head{Kind: api.Plain, Age: 16, Site: 256}, api.ErrCellAge},
		{api.Head{Kind: api.Plain, Site: -1}, api.ErrCellSite},
		{api.Head{Kind: api.Plain, Site: 256}, api.ErrCellSite},
		{api.Head{Kind: api.Plain, Site: 1 << 40}, api.ErrCellSite},
	} {
		if w, e := cell.Pack(c.h); w != 0 || e != c.e {
			t.Errorf("P2.2, P2.5: Pack(%+v) = %#x, %d, want 0, %d", c.h, w, e, c.e)
		}
	}
}

// TestHeadsOfEdges packs every choice of edges in two of the parts, the others as they may be.
func TestHeadsOfEdges(t *testing.T) {
	ways := []func(*api.Head, int){
		func(h *api.Head, n int) { h.Kind = n },
		func(h *api.Head, n int) { h.Ptrs = n },
		func(h *api.Head, n int) { h.Raws = n },
		func(h *api.Head, n int) { h.Age = n },
		func(h *api.Head, n int) { h.Site = n },
	}
	for kind := range 6 {
		for i, one := range ways {
			for _, two := range ways[:i] {
				for _, m := range edges {
					for _, n := range edges {
						h := api.Head{Serial: 9, Kind: kind, Ptrs: 2, Held: (m+n)%2 == 0}
						one(&h, m)
						two(&h, n)
						checkHead(t, h)
					}
				}
			}
		}
	}
}

func checkHead(t *testing.T, h api.Head) {
	t.Helper()
	w, e := cell.Pack(h)
	if want := faulty(h); want != api.OK {
		if w != 0 || e != want {
			t.Errorf("P2.2: Pack(%+v) = %#x, %d, want 0, %d", h, w, e, want)
		}
		return
	}
	if w != asked(h) || e != api.OK {
		t.Errorf("P2.1, P2.5: Pack(%+v) = %#x, %d, want %#x", h, w, e, asked(h))
	}
	h.Serial = 0
	if g, ok := cell.Unpack(w); !ok || g != h {
		t.Errorf("P2.9: Unpack of Pack of %+v: %+v, %v", h, g, ok)
	}
	if n := cell.Size(w); n != 2+h.Ptrs+h.Raws {
		t.Errorf("P2.7: Size of %+v: %d", h, n)
	}
}

func TestChangesLeaveTheRest(t *testing.T) {
	h := api.Head{Kind: api.Ephemeron, Ptrs: 4095, Raws: 65535, Age: 15, Site: 255, Held: true}
	for _, kind := range []int{api.Plain, api.Weak, api.Ephemeron, api.Final} {
		for _, age := range []int{0, 7, 15} {
			for _, held := range []bool{false, true} {
				h.Kind, h.Age, h.Held = kind, age, held
				checkChanges(t, pack(t, h), h)
			}
		}
	}
}

func TestWithKindNeedsPointerFields(t *testing.T) {
	for ptrs := range 4 {
		for kind := -1; kind < 9; kind++ {
			h := api.Head{Kind: api.Plain, Ptrs: ptrs, Raws: 1, Age: 2, Site: 3, Held: true}
			w := pack(t, h)
			h.Kind = kind
			checkChanged(t, "WithKind", w, h, cell.WithKind(w, kind))
		}
	}
}

func TestExampleOfPlain(t *testing.T) {
	w := pack(t, api.Head{Kind: api.Plain, Ptrs: 2, Raws: 1, Site: 7})
	for _, c := range []struct {
		what      string
		got, want uint64
	}{
		{"P2.1: Pack", w, 1074273285},
		{"P2.7: Size", uint64(cell.Size(w)), 5},
		{"P2.8: WithAge 3", cell.WithAge(w, 3), 1074273477},
		{"P2.8: WithHeld", cell.WithHeld(w, true), 1074273285 + 32},
		{"P2.8: WithKind", cell.WithKind(w, api.Weak), 1074273285 + 4},
		{"P2.8: WithAge 16", cell.WithAge(w, 16), 1074273285},
	} {
		if c.got != c.want {
			t.Errorf("%s: %d, want %d", c.what, c.got, c.want)
		}
	}
}

func TestExampleOfErrors(t *testing.T) {
	for _, c := range []struct {
		h api.Head
		e api.Errno
	}{
		{api.Head{Kind: api.Weak}, api.ErrCellKind},
		{api.Head{Kind: api.Ephemeron, Ptrs: 1}, api.ErrCellKind},
		{api.Head{Kind: api.Plain, Ptrs: -1}, api.ErrCellPtrs},
		{api.Head{Kind: api.Final, Raws: api.MaxRaws, Age: 15, Site: 255}, api.OK},
	} {
		if _, e := cell.Pack(c.h); e != c.e {
			t.Errorf("P2.2: Pack(%+v): %d, want %d", c.h, e, c.e)
		}
	}
}
