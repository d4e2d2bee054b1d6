package census_test

import (
	"fmt"
	"maps"
	"slices"
	"testing"

	"midden/api"
	"midden/census"
	"midden/heap"
)

// thing: what is known of an object since it was made.
type thing struct {
	site, words, age int
}

// watch: a heap, and what a census is to tell of it, by what was done to it.
type watch struct {
	h      *heap.Heap
	things map[uint64]thing // all that were ever made
	lists  [][]uint64       // the last census
}

func watched(h *heap.Heap) *watch {
	w := &watch{h, map[uint64]thing{}, census.Of(h)}
	for _, o := range h.Graph(true).Objects {
		w.things[o.Serial] = thing{o.Site, 2 + len(o.Ptrs) + len(o.Raws), 0}
	}
	return w
}

// does does an operation, and holds the heap's lists to those ahead of it: P15.6.
func (w *watch) does(t *testing.T, o api.Op) {
	t.Helper()
	x := ask(w.h, o)
	was, is := w.lists, census.Of(w.h)
	w.lists = is
	if !moves(o) || x.err != api.OK && x.err != api.ErrHeapMemory {
		want(t, fmt.Sprintf("P15.6: %+v moves nothing", o), is, was)
		want(t, fmt.Sprintf("P15.6: cycles of %+v", o), x.report.Cycles, []int{})
		return
	}
	if x.report.Serial != 0 {
		w.things[x.report.Serial] = thing{site: o.E, words: 2 + o.C + o.D}
	}
	w.moved(t, was, is, x.report)
	w.grown(was, x.report.Cycles)
}

// moved holds lists to those ahead of an operation that may have run cycles.
func (w *watch) moved(t *testing.T, was, is [][]uint64, r api.Report) {
	t.Helper()
	before, tenured := slices.Concat(was...), was[3]
	for i, list := range is {
		for _, s := range list {
			if s != r.Serial && !slices.Contains(before, s) {
				t.Errorf("P15.6: %d comes from nowhere: %v, %v", s, was, is)
			}
			if i < 3 && slices.Contains(tenured, s) {
				t.Errorf("P15.6: %d comes back: %v, %v", s, was, is)
			}
		}
	}
	if len(r.Cycles) == 0 {
		want(t, "P15.6: without a cycle the one that was made alone comes to it", without(is, r.Serial), was)
	}
	if r.Serial != 0 && !slices.Contains(slices.Concat(is...), r.Serial) {
		t.Errorf("P15.1: %d isn't there: %v", r.Serial, is)
	}
	if !slices.Contains(r.Cycles, api.CycleMajor) {
		want(t, "P15.6: tenured ones stay", is[3][:len(tenured)], tenured)
	}
}

// without tells lists without a serial.
func without(lists [][]uint64, s uint64) [][]uint64 {
	var told [][]uint64
	for _, list := range lists {
		told = append(told, slices.DeleteFunc(slices.Clone(list), func(x uint64) bool { return x == s }))
	}
	return told
}

// grown makes what was young older by a year a minor cycle.
func (w *watch) grown(was [][]uint64, cycles []int) {
	for _, s := range slices.Concat(was[:3]...) {
		x := w.things[s]
		for _, cycle := range cycles {
			if cycle != api.CycleMajor {
				x.age = min(x.age+1, 15)
			}
		}
		w.things[s] = x
	}
}

// holds holds a census to the heap, to what was made, and to Reach: P15.1 to P15.5.
func (w *watch) holds(t *testing.T) {
	t.Helper()
	h, lists := w.h, w.lists
	for i, list := range lists {
		var serials []uint64
		last := 0
		for at, o := range h.Objects(i + 1) {
			serials = append(serials, o.Serial)
			if at <= last {
				t.Errorf("P15.1: %d comes behind %d", at, last)
			}
			last = at
		}
		want(t, fmt.Sprint("P15.1: list ", i), list, serials)
	}
	there, live := slices.Concat(lists...), reach(h.Graph(true))
	want(t, "P15.5: no serial twice", len(slices.Compact(slices.Sorted(slices.Values(there)))), len(there))
	if len(lists[1]) > 0 && len(lists[2]) > 0 {
		t.Errorf("P15.5: the to space isn't empty: %v", lists)
	}
	a, v := census.Audit(h), h.View()
	want(t, "P15.2", a, api.Audit{Live: w.words(live), Floating: w.words(there) - w.words(live), Young: v.Young, Tenured: v.Tenured, Fillers: h.Fillers(), Limit: h.Limit()})
	want(t, "P15.2: Young and Tenured together", a.Young+a.Tenured, a.Live+a.Floating+a.Fillers)
	want(t, "P15.2: no fillers are tenured", a.Tenured, w.words(lists[3]))
	want(t, "P15.3: all", census.Sites(h, false), w.sites(there))
	want(t, "P15.3: live", census.Sites(h, true), w.sites(live))
	w.sums(t, a)
	want(t, "P15.4", census.Ages(h), w.ages(slices.Concat(lists[:3]...)))
}

// sums: P15.5, of the sites and ages.
func (w *watch) sums(t *testing.T, a api.Audit) {
	t.Helper()
	all, words := map[int]api.Site{}, 0
	for _, s := range census.Sites(w.h, false) {
		all[s.Site] = s
		words += s.Words
	}
	want(t, "P15.5: what is there", words, a.Live+a.Floating)
	words = 0
	for _, s := range census.Sites(w.h, true) {
		if s.Objects > all[s.Site].Objects || s.Words > all[s.Site].Words {
			t.Errorf("P15.5: more lives than is there: %v, %v", s, all[s.Site])
		}
		words += s.Words
	}
	want(t, "P15.5: what lives", words, a.Live)
	words = 0
	for _, n := range census.Ages(w.h) {
		words += n
	}
	want(t, "P15.5: ages", words, w.words(slices.Concat(w.lists[:3]...)))
}

func (w *watch) words(list []uint64) int {
	n := 0
	for _, s := range list {
		n += w.things[s].words
	}
	return n
}

func (w *watch) ages(list []uint64) [16]int {
	var ages [16]int
	for _, s := range list {
		ages[w.things[s].age] += w.things[s].words
	}
	return ages
}

func (w *watch) sites(list []uint64) []api.Site {
	var every [256]api.Site
	for _, s := range list {
		x := w.things[s]
		is := every[x.site]
		every[x.site] = api.Site{Site: x.site, Objects: is.Objects + 1, Words: is.Words + x.words}
	}
	return slices.DeleteFunc(every[:], func(x api.Site) bool { return x.Objects == 0 })
}

// reach tells the serials of Reach of a graph in which all is that is Known, by DOC.md's words: again and again, till nothing comes to it.
func reach(g api.Graph) []uint64 {
	in := map[int]uint64{}
	add := func(list ...int) {
		for _, n := range list {
			if n > 0 {
				in[n] = g.Objects[n-1].Serial
			}
		}
	}
	for _, frames := range g.Slots {
		add(slices.Concat(frames...)...)
	}
	add(g.Handles...)
	add(g.Queue...)
	for grown := -1; grown != len(in); {
		grown = len(in)
		for _, n := range slices.Collect(maps.Keys(in)) {
			o := g.Objects[n-1]
			switch {
			case o.Kind == api.Weak:
				add(o.Ptrs[1:]...)
			case o.Kind == api.Ephemeron && in[o.Ptrs[0]] == 0:
				add(o.Ptrs[2:]...)
			default:
				add(o.Ptrs...)
			}
		}
	}
	return slices.Collect(maps.Values(in))
}

// TestWhatever holds a census to what was done, behind each of many operations.
func TestWhatever(t *testing.T) {
	for seed := range 150 {
		d := dice(seed)
		c := d.config()
		w := watched(begun(t, c))
		w.run(t, &d, c, 200)
	}
}

// TestWhateverRestored does the same to heaps that were made of others' graphs, in other configurations.
func TestWhateverRestored(t *testing.T) {
	for seed := range 60 {
		d := dice(1000 + seed)
		c := d.config()
		w := watched(begun(t, c))
		w.run(t, &d, c, 80)
		other := d.config()
		other.Threads, other.Slots, other.Handles = c.Threads, c.Slots, c.Handles
		other.Tenured = max(64, census.Audit(w.h).Live+census.Audit(w.h).Floating+d.below(100))
		w = watched(restored(t, other, w.h.Graph(true)))
		w.holds(t)
		w.run(t, &d, other, 80)
	}
}

// run does so many operations.
func (w *watch) run(t *testing.T, d *dice, c api.Config, ops int) {
	t.Helper()
	for range ops {
		o := d.op(c)
		w.does(t, o)
		w.holds(t)
		if t.Failed() {
			t.Fatalf("behind %+v", o)
		}
	}
}

// TestCyclesMove: P15.6, cycle by cycle, and what moves nothing between them.
func TestCyclesMove(t *testing.T) {
	c := small()
	c.Large = 30
	h := made(t, c)
	does(t, h, push(0, 4), alloc(0, 0, api.Plain, 2, 0, 0), alloc(0, 1, api.Plain, 1, 1, 0), alloc(0, 2, api.Plain, 0, 28, 0), alloc(0, 3, api.Plain, 0, 0, 0))
	still := func(lists string) {
		t.Helper()
		want(t, "P15.6", census.Of(h), lists)
		does(t, h, store(0, 0, 0, 1), load(0, 3, 0, 0), store(0, 1, 0, 3), put(0, 1, 0, 7), copied(0, 3, -1), push(0, 2), pop(0), opened(0, 0), fetch(0, 3, 0), closing(0))
		want(t, "P15.6: nothing moves", census.Of(h), lists)
	}
	still("[[1 2 4] [] [] [3]]")
	does(t, h, minor())
	still("[[] [] [1 2] [3]]")
	does(t, h, alloc(0, 2, api.Plain, 0, 0, 0))
	still("[[5] [] [1 2] [3]]")
	does(t, h, minor())
	still("[[] [1 2 5] [] [3]]")
	does(t, h, major())
	still("[[] [1 2 5] [] []]")
	does(t, h, promote())
	still("[[] [] [] [1 2 5]]")
	does(t, h, minor())
	still("[[] [] [] [1 2 5]]")
	does(t, h, pop(0))
	want(t, "P15.6: nothing moves", census.Of(h), "[[] [] [] [1 2 5]]")
	does(t, h, minor())
	want(t, "P15.6: it is tenured", census.Of(h), "[[] [] [] [1 2 5]]")
	does(t, h, major())
	want(t, "P15.6: all is gone", census.Of(h), "[[] [] [] []]")
}
