package mutator_test

import (
	"fmt"
	"maps"
	"slices"
	"testing"

	"midden/api"
	"midden/mutator"
)

// other tells another configuration into which what is known of a model may be loaded: with just the room, or with more.
func (r *run) other() api.Config {
	c := r.d.config()
	c.Threads, c.Slots, c.Handles = r.m.c.Threads, r.m.c.Slots, r.m.c.Handles
	c.Tenured = max(64, r.m.words(r.m.known())+r.d.below(2)*r.d.below(400))
	c.Floor = r.d.of(0, 50, 65536, 65536)
	return c
}

// known tells a reply without what P20.7 leaves out: census, audit, sites and cycles.
func known(r api.Reply) api.Reply {
	r.Census, r.Audit, r.Sites, r.Cycles = nil, api.Audit{}, nil, nil
	return r
}

// TestImages: P20.7: mutators that were written down and loaded into other configurations reply as the first one does, until one of them runs a major cycle; their censuses list just Known.
func TestImages(t *testing.T) {
	steps := 0
	for seed := range 120 {
		d := dice(20000 + seed)
		c := d.config()
		c.Tenured, c.Floor = c.Tenured+d.below(2)*500, d.of(c.Floor, 65536)
		r := beginsIn(t, &d, c)
		for range 40 {
			r.does(t, r.op())
		}
		b := r.it.Do(dump()).Bytes
		var others []*mutator.Mutator
		for range 3 {
			other := r.other()
			n := loaded(t, other, b)
			serials := slices.Sorted(maps.Keys(r.m.known()))
			does(t, "P20.7: the census lists just Known", n, counted(), there(nil, nil, nil, serials))
			does(t, "P20.7: the image", n, dump(), api.Reply{Bytes: b})
			words := r.m.words(r.m.known())
			live := r.m.words(r.m.reach(0))
			does(t, "DOC.md: the limit of what was loaded", n, audit(), api.Reply{Audit: api.Audit{Live: live, Floating: words - live, Tenured: words, Limit: max(other.Floor, words*other.Num/other.Den)}})
			others = append(others, n)
		}
		for range 120 {
			o := r.op()
			r.does(t, o)
			got := r.replies[len(r.replies)-1]
			if ran(got.Cycles, api.CycleMajor) {
				break
			}
			others = slices.DeleteFunc(others, func(n *mutator.Mutator) bool {
				x := n.Do(o)
				if ran(x.Cycles, api.CycleMajor) {
					return true
				}
				steps++
				want(t, fmt.Sprintf("P20.7: %+v", o), known(x), known(got))
				return false
			})
			if t.Failed() {
				t.Fatalf("seed %d", seed)
			}
		}
	}
	if steps < 2000 {
		t.Errorf("P20.7: %d steps without a major cycle", steps)
	}
}

// TestImagesGoOn: P20.1 to P20.6 hold of mutators that were loaded, as well.
func TestImagesGoOn(t *testing.T) {
	for seed := range 40 {
		r := begins(t, 30000+seed)
		for range 60 {
			r.does(t, r.op())
		}
		b, c := r.it.Do(dump()).Bytes, r.other()
		r.it, r.m.c = loaded(t, c, b), c
		r.now = r.boundary()
		r.m.keep(r.m.known())
		r.base = r.m.words(r.m.all())
		r.holds(t)
		for range 60 {
			r.does(t, r.op())
		}
	}
}

// TestImageOfNullKeys: P20.7: weak fields and ephemerons hold what they held, dead or not, on both sides.
func TestImageOfNullKeys(t *testing.T) {
	ok := api.Reply{}
	m := begun(t, small(), push(0, 3), alloc(0, 0, api.Weak, 1, 0, 0), alloc(0, 1, api.Plain, 1, 1, 0), put(0, 1, 0, 42), store(0, 0, 0, 1), alloc(0, 1, api.Ephemeron, 2, 0, 0), alloc(0, 2, api.Plain, 0, 0, 0), store(0, 1, 1, 2), cleared(0, 2))
	n := loaded(t, small(), m.Do(dump()).Bytes)
	for _, x := range []*mutator.Mutator{m, n} {
		goes(t, "P20.7", x, step{load(0, 2, 0, 0), ok}, step{get(0, 2, 0), word(42)}, step{hash(0, 2), word(2)}, step{load(0, 2, 1, 1), ok}, step{hash(0, 2), word(4)}, step{cleared(0, 2), ok},
			step{major(), cycled(api.CycleMajor)}, step{load(0, 2, 0, 0), ok}, step{hash(0, 2), refused(api.ErrHeapNull)}, step{load(0, 2, 1, 1), ok}, step{hash(0, 2), refused(api.ErrHeapNull)})
	}
}
