package census_test

import (
	"fmt"
	"testing"

	"midden/api"
	"midden/census"
	"midden/heap"
)

// mixed is a heap with something in each space but one, in frames, handles, registry, queue and remembered list, and with fillers.
func mixed(t *testing.T) *heap.Heap {
	t.Helper()
	c := small()
	c.Threads, c.Buffer, c.Large, c.Slots = 2, 10, 20, 16
	h := made(t, c)
	does(t, h, push(0, 4), push(1, 2), alloc(0, 0, api.Final, 1, 1, 4), copied(0, 0, -1), major())
	does(t, h, alloc(0, 0, api.Weak, 2, 0, 1), alloc(1, 0, api.Ephemeron, 2, 3, 2), minor())
	does(t, h, alloc(0, 1, api.Plain, 3, 17, 3), alloc(0, 2, api.Final, 1, 1, 4), alloc(1, 1, api.Plain, 1, 1, 1))
	does(t, h, store(0, 1, 0, 2), store(0, 0, 0, 2), opened(0, 1), push(0, 3), alloc(0, 1, api.Plain, 0, 0, 1), alloc(0, 1, api.Plain, 0, 1, 6))
	return h
}

// TestChangesNothing: all of a heap's answers are behind each call what they were.
func TestChangesNothing(t *testing.T) {
	for _, h := range []*heap.Heap{made(t, small()), first(t), mixed(t)} {
		is := state(h)
		for range 2 {
			census.Of(h)
			want(t, "P15.1: Of changes nothing", state(h), is)
			census.Audit(h)
			want(t, "P15.2: Audit changes nothing", state(h), is)
			census.Sites(h, false)
			want(t, "P15.3: Sites changes nothing", state(h), is)
			census.Sites(h, true)
			want(t, "P15.3: Sites changes nothing", state(h), is)
			census.Ages(h)
			want(t, "P15.4: Ages changes nothing", state(h), is)
		}
	}
}

// TestTwins: a heap that is looked at goes on as one that isn't.
func TestTwins(t *testing.T) {
	for seed := range 40 {
		d := dice(100 + seed)
		c := d.config()
		h, other := begun(t, c), begun(t, c)
		for range 200 {
			o := d.op(c)
			told(h)
			want(t, fmt.Sprintf("no call changes the heap: %+v", o), ask(h, o), ask(other, o))
		}
		want(t, "no call changes the heap", state(h), state(other))
		if t.Failed() {
			t.Fatalf("seed %d", seed)
		}
	}
}

// TestSame: the same heap is told the same, by however many workers, and while its objects are gone through.
func TestSame(t *testing.T) {
	h := mixed(t)
	is := told(h)
	for range h.Objects(api.SpaceEden) {
		want(t, "rule 6", told(h), is)
	}
	for seed := range 10 {
		var all []string
		for _, workers := range []int{1, 3, 8} {
			d := dice(300 + seed)
			c := d.config()
			c.Workers = workers
			h := begun(t, c)
			s := ""
			for range 150 {
				ask(h, d.op(c))
				s += told(h)
			}
			all = append(all, s)
		}
		want(t, "rule 6: three workers", all[1], all[0])
		want(t, "rule 6: eight workers", all[2], all[0])
	}
}

// TestNewMemory: lists that a call answers may be written into and appended to, spare room and all; no other list is touched by that.
func TestNewMemory(t *testing.T) {
	h := mixed(t)
	is, heap := told(h), state(h)
	lists, other := census.Of(h), census.Of(h)
	wants := census.Of(h)
	for i := range lists {
		l := lists[i][:cap(lists[i])]
		for j := range l {
			l[j] = 99
		}
		for k := i + 1; k < 4; k++ {
			want(t, "rule 3: another list of the answer", lists[k], wants[k])
		}
		lists[i] = append(lists[i], 98)
	}
	lists = lists[:cap(lists)]
	clear(lists)
	want(t, "rule 3: another answer", other, wants)
	for _, live := range []bool{false, true} {
		sites, other, wants := census.Sites(h, live), census.Sites(h, live), census.Sites(h, live)
		clear(sites[:cap(sites)])
		want(t, "rule 3: another answer", other, wants)
	}
	want(t, "rule 3: later answers", told(h), is)
	want(t, "rule 3: the heap", state(h), heap)
}
