package heap_test

import (
	"fmt"
	"testing"

	"midden/api"
	"midden/heap"
)

// roomy tells a configuration of one's own, in which no major cycle is due and room for all.
func (d *dice) roomy(as api.Config) api.Config {
	c := d.config()
	c.Tenured, c.Floor = 65536, 65536
	c.Threads, c.Slots, c.Handles = as.Threads, as.Slots, as.Handles
	return c
}

// TestSameInAllConfigurations: P14.14: what operations answer, cycles apart, and what becomes of the graph.
func TestSameInAllConfigurations(t *testing.T) {
	for seed := range 60 {
		d := dice(5000 + seed)
		c := d.roomy(d.config())
		r := &run{made(t, c), newModel(c), &d, d.of(1, 3, 10, 25)}
		others := []*heap.Heap{made(t, d.roomy(c)), made(t, d.roomy(c)), made(t, d.roomy(c))}
		for i := range 250 {
			o := r.op()
			if i < c.Threads {
				o = push(i, 3)
			}
			if o.D > 1000 {
				continue // there would be no room for that
			}
			r.m.ask(o)
			x := ask(r.h, o)
			x.cycles = nil
			g := r.h.Graph(true)
			for _, h := range others {
				y := ask(h, o)
				if major := ran(y.cycles, api.CycleMajor); major != (o.Kind == api.OpMajor) {
					t.Fatalf("seed %d: %+v runs %v", seed, o, y.cycles)
				}
				y.cycles = nil
				want(t, fmt.Sprintf("P14.14: %+v", o), y.told(), x.told())
				want(t, fmt.Sprintf("P14.14: the graph behind %+v", o), h.Graph(true), g)
			}
			if t.Failed() {
				t.Fatalf("seed %d", seed)
			}
		}
	}
}

// TestSameByAllWorkers: not a word of a heap hangs on how many mark.
func TestSameByAllWorkers(t *testing.T) {
	for seed := range 12 {
		var told []string
		for _, workers := range []int{1, 2, 8} {
			d := dice(7000 + seed)
			c := d.config()
			c.Workers = workers
			r := &run{made(t, c), newModel(c), &d, 3}
			s := ""
			for i := range 200 {
				o := r.op()
				if i < c.Threads {
					o = push(i, 3)
				}
				r.m.ask(o)
				s += ask(r.h, o).told() + "\n"
			}
			told = append(told, s+state(r.h))
		}
		want(t, "P14.14: two workers", told[1], told[0])
		want(t, "P14.14: eight workers", told[2], told[0])
	}
}

// TestRoom: P14.15, at its edge: what is Kept and what is asked for fill the tenured space, wherever what is Kept lies.
func TestRoom(t *testing.T) {
	for _, large := range []int{2, 30, 65536} {
		for words := 2; words <= 90; words++ {
			c := small()
			c.Large = large
			h := begun(t, c, 3)
			// What is Kept: 5 words in a slot, 3 by the registry, 2 by a value whose key is there; the rest is dead.
			for _, o := range []api.Op{
				alloc(0, 0, api.Ephemeron, 3, 0, 0), alloc(0, 1, api.Plain, 0, 0, 0), store(0, 0, 1, 1), store(0, 0, 0, 0),
				alloc(0, 1, api.Final, 0, 1, 0), alloc(0, 1, api.Plain, 0, 20, 0), alloc(0, 1, api.Plain, 0, 20, 0), copied(0, 1, -1),
			} {
				if x := ask(h, o); x.err != api.OK {
					t.Fatalf("%+v: error %d", o, x.err)
				}
			}
			if x := ask(h, alloc(0, 1, api.Plain, 0, words-2, 0)); x.err != api.OK {
				t.Errorf("P14.15: %d words, Large %d: error %d, %v", words, large, x.err, x.cycles)
			}
			if h.View().Tenured > h.Limit() || !h.Check() {
				t.Errorf("P14.15: %d words, Large %d: %v, limit %d", words, large, h.View(), h.Limit())
			}
		}
	}
}

// TestRoomForAnother: of a heap that is full of what is Kept nothing more is to be had, till some of it is let go.
func TestRoomForAnother(t *testing.T) {
	for _, large := range []int{2, 65536} {
		c := small()
		c.Tenured, c.Large, c.Slots = 64, large, 100
		h := begun(t, c, 100)
		words := 0
		for slot := range 100 {
			x := ask(h, alloc(0, slot, api.Plain, 0, 2, 0))
			if x.err == api.ErrHeapMemory {
				if !ran(x.cycles, api.CycleMajor) || words+4 <= 64 {
					t.Errorf("P14.15: it fails at %d words: %v", words, x.cycles)
				}
				break
			}
			words += 4
		}
		does(t, "P14.6: again", h, alloc(0, 99, api.Plain, 0, 2, 0), "error 142 after [3]")
		want(t, "P14.6: nothing is lost", len(h.Graph(false).Objects)*4, words)
		for slot := range 50 {
			does(t, "P14.3", h, copied(0, slot, -1), "")
		}
		if x := ask(h, alloc(0, 99, api.Plain, 0, 2, 0)); x.err != api.OK {
			t.Errorf("P14.15: behind the letting go: error %d", x.err)
		}
	}
}
