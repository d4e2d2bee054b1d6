package image_test

import (
	"fmt"
	"slices"
	"testing"

	"midden/api"
	"midden/heap"
	"midden/image"
)

// small is the configuration of layer 14's examples.
func small() api.Config {
	return api.Config{Eden: 64, Survivor: 64, Tenured: 100, Large: 64, Floor: 50, Num: 2, Den: 1, Target: 50, MaxAge: 2, Threads: 1, Slots: 8, Handles: 2, Workers: 1}
}

// fitting has just the room that mixed needs: 7, 4, 5, 3, 2 and 4 words.
func fitting() api.Config {
	c := small()
	c.Threads, c.Slots, c.Handles = 3, 6, 4
	return c
}

// made makes a heap with an object of each kind, in slots, a handle, registry and queue, and with some that are known by weak fields alone.
func made(t *testing.T) *heap.Heap {
	t.Helper()
	h, e := heap.New(small())
	if e != api.OK {
		t.Fatal(e)
	}
	h.Push(0, 3)
	h.Alloc(0, 0, api.Final, 1, 1, 9)
	h.Copy(0, 0, -1)
	h.Cycle(api.CycleMajor) // it is queued
	h.Alloc(0, 0, api.Weak, 2, 0, 200)
	h.Alloc(0, 1, api.Plain, 0, 1, 0)
	h.Put(0, 1, 0, lastWord)
	h.Store(0, 0, 0, 1)
	h.Alloc(0, 1, api.Ephemeron, 2, 0, 3)
	h.Alloc(0, 2, api.Final, 0, 0, 4)
	h.Store(0, 1, 0, 2)
	h.Open(0, 1)
	h.Alloc(0, 1, api.Plain, 0, 20, 0)
	h.Push(0, 2)
	return h
}

// TestSave: Write of Graph(true), of heaps of all sorts, to the byte; nothing changes by it.
func TestSave(t *testing.T) {
	h := made(t)
	g := h.Graph(true)
	want(t, "P16.5: how many are known", len(g.Objects), 6)
	want(t, "P16.5: the queue", g.Queue, []int{1})
	want(t, "P16.5: Save", image.Save(h), asked(g))
	want(t, "P16.5: nothing changes by it", h.Graph(true), g)
	h.Copy(0, 0, -1)
	h.Pop(0)
	h.Copy(0, 0, -1)
	want(t, "P16.5: what nobody knows isn't written", image.Save(h), asked(h.Graph(true)))
	fresh, _ := heap.New(small())
	want(t, "P16.5: a new heap", image.Save(fresh), whole([]byte{0x4d, 0x44, 0x49, 0x31, 1, 0, 1, 0, 2, 0, 0, 0}))
}

// TestLoadRefuses: Read's errors with their places, whatever the configuration; then Restore's, at 0.
func TestLoadRefuses(t *testing.T) {
	b := asked(mixed())
	wrong := mixed()
	wrong.Queue = []int{1, 1}
	not := func(change func(c *api.Config)) api.Config {
		c := fitting()
		change(&c)
		return c
	}
	n := len(b)
	other := slices.Clone(b)
	other[n-1]++
	for _, x := range []struct {
		what  string
		c     api.Config
		b     []byte
		place int
		e     api.Errno
	}{
		{"short", fitting(), b[:n-1], n - 1, api.ErrImageShort},
		{"short, in no configuration", api.Config{}, b[:20], 20, api.ErrImageShort},
		{"not of the form", fitting(), []byte{0x4d, 0x44, 0x49, 0x31, 1, 0x80, 0}, 5, api.ErrImageForm},
		{"not of the form, where nothing fits", small(), []byte{0x4d, 0x44, 0x49, 0x31, 1, 0x80, 0}, 5, api.ErrImageForm},
		{"another checksum", fitting(), other, n - 4, api.ErrImageSum},
		{"more", fitting(), append(slices.Clone(b), 0), n, api.ErrImageMore},
		{"a graph that may not be", fitting(), asked(wrong), 0, api.ErrImageGraph},
		{"a graph that may not be, in no configuration", api.Config{}, asked(wrong), 0, api.ErrImageGraph},
		{"no configuration", api.Config{}, b, 0, api.ErrArenaConfig},
		{"no configuration, and no room", not(func(c *api.Config) { c.Eden, c.Threads = 63, 1 }), b, 0, api.ErrArenaConfig},
		{"another number of threads", not(func(c *api.Config) { c.Threads = 4 }), b, 0, api.ErrImageRoom},
		{"too few slots", not(func(c *api.Config) { c.Slots = 5 }), b, 0, api.ErrImageRoom},
		{"another number of handles", not(func(c *api.Config) { c.Handles = 5 }), b, 0, api.ErrImageRoom},
	} {
		if h, place, e := image.Load(x.c, x.b); h != nil || place != x.place || e != x.e {
			t.Errorf("P16.5: %s: a heap: %v, error %d at %d, want %d at %d", x.what, h != nil, e, place, x.e, x.place)
		}
	}
	great := mixed()
	great.Objects[0].Raws = make([]uint64, 3+100-25)
	c := fitting()
	if _, place, e := image.Load(c, asked(great)); place != 0 || e != api.OK {
		t.Errorf("P16.5: all the words that there are: error %d at %d", e, place)
	}
	great.Objects[0].Raws = make([]uint64, 3+100-25+1)
	if h, place, e := image.Load(c, asked(great)); h != nil || place != 0 || e != api.ErrImageRoom {
		t.Errorf("P16.5: a word more: error %d at %d", e, place)
	}
}

// TestLoaded: the same graph, and as Restore makes it.
func TestLoaded(t *testing.T) {
	for _, g := range []api.Graph{mixed(), itself(), empty()} {
		c := small()
		c.Threads, c.Handles = len(g.Slots), len(g.Handles)
		h, place, e := image.Load(c, asked(g))
		if h == nil || place != 0 || e != api.OK {
			t.Fatalf("P16.5: Load of % x: error %d at %d", asked(g), e, place)
		}
		as, _ := heap.Restore(c, g)
		want(t, "P16.7", h.Graph(true), g)
		want(t, "P16.5: as Restore", fmt.Sprint(h.Graph(false), h.View(), h.Limit(), h.Threshold(), h.Check()), fmt.Sprint(as.Graph(false), as.View(), as.Limit(), as.Threshold(), true))
		want(t, "P16.7: saved again", image.Save(h), asked(g))
	}
}

// step: an operation, ready to be done to any heap. It tells the report and the error, with whatever else is answered as a text.
type step func(h *heap.Heap) (api.Report, api.Errno, string)

// reported makes a step of an operation that answers no more than these.
func reported(do func(h *heap.Heap) (api.Report, api.Errno)) step {
	return func(h *heap.Heap) (api.Report, api.Errno, string) {
		r, e := do(h)
		return r, e, ""
	}
}

// asking makes a step of a question.
func asking(do func(h *heap.Heap) string) step {
	return func(h *heap.Heap) (api.Report, api.Errno, string) { return api.Report{}, api.OK, do(h) }
}

// step tells one of any kind; many are refused.
func (d *dice) step(c api.Config) step {
	thread, a, b, field, word := d.below(c.Threads), d.below(4), d.below(5)-1, d.below(4), d.word()
	switch d.below(40) {
	case 0:
		return reported(func(h *heap.Heap) (api.Report, api.Errno) { return h.Push(thread, 3+a) })
	case 1:
		return reported(func(h *heap.Heap) (api.Report, api.Errno) { return h.Pop(thread) })
	case 2, 3, 4, 5:
		return reported(func(h *heap.Heap) (api.Report, api.Errno) { return h.Load(thread, a, b, field) })
	case 6, 7, 8, 9, 10, 11, 12:
		return reported(func(h *heap.Heap) (api.Report, api.Errno) { return h.Store(thread, a, field, b) })
	case 13, 14:
		return reported(func(h *heap.Heap) (api.Report, api.Errno) { return h.Put(thread, a, field, word) })
	case 15, 16, 17:
		return reported(func(h *heap.Heap) (api.Report, api.Errno) { return h.Copy(thread, a, b) })
	case 18:
		return func(h *heap.Heap) (api.Report, api.Errno, string) {
			n, r, e := h.Open(thread, a)
			return r, e, fmt.Sprint(n)
		}
	case 19:
		return reported(func(h *heap.Heap) (api.Report, api.Errno) { return h.Fetch(thread, a, b) })
	case 20:
		return reported(func(h *heap.Heap) (api.Report, api.Errno) { return h.Close(b) })
	case 21, 22:
		return reported(func(h *heap.Heap) (api.Report, api.Errno) { return h.Take(thread, a) })
	case 23:
		return reported(func(h *heap.Heap) (api.Report, api.Errno) { return h.Cycle(api.CycleMinor) })
	case 24:
		return reported(func(h *heap.Heap) (api.Report, api.Errno) { return h.Cycle(api.CycleAll) })
	case 25:
		return asking(func(h *heap.Heap) string { return fmt.Sprint(h.Get(thread, a, field)) })
	case 26:
		return asking(func(h *heap.Heap) string { return fmt.Sprint(h.Same(thread, a, b)) })
	case 27:
		return asking(func(h *heap.Heap) string { return fmt.Sprint(h.Shape(thread, a)) })
	}
	kind, raws, site := d.of(api.Plain, api.Plain, api.Weak, api.Ephemeron, api.Final), d.below(12), d.below(256)
	return reported(func(h *heap.Heap) (api.Report, api.Errno) { return h.Alloc(thread, a, kind, field, raws, site) })
}

// config tells one of many with so many threads, slots and handles.
func (d *dice) config(threads, slots, handles int) api.Config {
	c := small()
	c.Eden, c.Survivor, c.Tenured = 64+d.below(100), 64+d.below(30), 2000+d.below(60000)
	c.Large, c.Floor, c.MaxAge, c.Target = d.of(4, 10, 64, 65536), 1000+d.below(60000), 1+d.below(15), 1+d.below(100)
	c.Threads, c.Slots, c.Handles, c.Buffer, c.Workers = threads, slots, handles, d.of(0, 16, 64), 1+d.below(2)
	return c
}

// TestTwins: P16.7: a heap that does this and that, with major cycles too, is saved and loaded into another configuration; both do the same then, till one of them runs a major cycle or has no room.
func TestTwins(t *testing.T) {
	steps := 0
	for seed := range 200 {
		d := dice(95000 + seed)
		c := d.config(1+d.below(3), 4+d.below(12), d.below(4))
		h, e := heap.New(c)
		want(t, "P14.1", e, api.OK)
		for thread := range c.Threads {
			h.Push(thread, 4)
		}
		for range d.below(120) {
			d.step(c)(h)
			if d.below(40) == 0 {
				h.Cycle(api.CycleMajor)
			}
		}
		other := d.config(c.Threads, c.Slots, c.Handles)
		twin, place, e := image.Load(other, image.Save(h))
		if e != api.OK || place != 0 {
			t.Fatalf("P16.5: seed %d: error %d at %d", seed, e, place)
		}
		want(t, "P16.7: the graph", twin.Graph(true), h.Graph(true))
		for range 150 {
			do := d.step(c)
			x, e, told := do(h)
			y, why, tells := do(twin)
			if e == api.ErrHeapMemory || why == api.ErrHeapMemory || slices.Contains(slices.Concat(x.Cycles, y.Cycles), api.CycleMajor) {
				break
			}
			steps++
			want(t, "P16.7: what is answered", fmt.Sprint(y.Serial, why, tells), fmt.Sprint(x.Serial, e, told))
			want(t, "P16.7: what the same operations make of both", twin.Graph(true), h.Graph(true))
			want(t, "P16.7: and so their images", image.Save(twin), image.Save(h))
			if t.Failed() {
				t.Fatalf("seed %d", seed)
			}
		}
	}
	if steps < 200*60 {
		t.Errorf("%d steps: that says little", steps)
	}
}
