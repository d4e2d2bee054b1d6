package mutator_test

import (
	"fmt"
	"slices"
	"testing"

	"midden/api"
	"midden/mutator"
)

// there is a census's reply, laid that of an allocation with cycles.
func there(lists ...[]uint64) api.Reply { return api.Reply{Census: lists} }

func laid(serial uint64, cycles ...int) api.Reply { return api.Reply{Word: serial, Cycles: cycles} }

// TestMajorAheadOfLaying: P20.1, P20.2: what the slot alone held is in Reach for a major cycle of the ladder: it floats behind it, and its finalizer isn't queued.
func TestMajorAheadOfLaying(t *testing.T) {
	c := small()
	c.Large, c.Floor = 20, 0
	m := begun(t, c, push(0, 2), alloc(0, 1, api.Weak, 1, 0, 0))
	goes(t, "P20.2", m,
		step{alloc(0, 0, api.Final, 0, 28, 0), laid(2, api.CycleMajor)}, step{store(0, 1, 0, 0), api.Reply{}},
		step{alloc(0, 0, api.Plain, 0, 30, 0), laid(3, api.CycleMajor)},
		step{counted(), there([]uint64{1}, nil, nil, []uint64{2, 3})},
		step{audit(), api.Reply{Audit: api.Audit{Live: 35, Floating: 30, Young: 3, Tenured: 62, Limit: 124}}},
		step{take(0, 0), refused(api.ErrHeapEmpty)}, step{load(0, 0, 1, 0), api.Reply{}}, step{hash(0, 0), word(2)}, step{shape(0, 0), api.Reply{Nums: []int{api.Final, 0, 28, 0}}},
		step{cleared(0, 0), api.Reply{}}, step{major(), cycled(api.CycleMajor)}, step{counted(), there([]uint64{1}, nil, nil, []uint64{2})}, step{take(0, 0), api.Reply{}}, step{hash(0, 0), word(2)})
}

// TestMajorBehindLaying: P20.1, P20.2: a major cycle at the operation's end comes behind the laying: what the slot alone held is gone by then, and its finalizer queued.
func TestMajorBehindLaying(t *testing.T) {
	for kind, wanted := range map[int][]step{
		api.Plain: {{counted(), there([]uint64{3}, nil, nil, []uint64{1})}, {take(0, 1), refused(api.ErrHeapEmpty)}},
		api.Final: {{counted(), there([]uint64{3}, []uint64{2}, nil, []uint64{1})}, {take(0, 1), api.Reply{}}, {shape(0, 1), api.Reply{Nums: []int{api.Plain, 0, 58, 0}}}},
	} {
		c := small()
		c.MaxAge, c.Floor = 1, 0
		m := begun(t, c, push(0, 2), alloc(0, 0, api.Plain, 0, 8, 0))
		goes(t, "P20.2", m, step{minor(), cycled(api.CycleMinor)}, step{alloc(0, 1, kind, 0, 58, 0), word(2)}, step{alloc(0, 1, api.Plain, 0, 9, 0), laid(3, api.CycleMinor, api.CycleMajor)})
		goes(t, "P20.2", m, wanted...)
	}
}

// TestNepotism: P20.4: a dead tenured object keeps young ones at minor cycles, through fields of all kinds; a major one ends that.
func TestNepotism(t *testing.T) {
	for kind, fields := range map[int]int{api.Plain: 1, api.Weak: 1, api.Ephemeron: 2, api.Final: 1} {
		for _, cycle := range []api.Op{minor(), promote()} {
			m := begun(t, small(), push(0, 3), alloc(0, 0, kind, fields, 0, 0))
			m.Do(promote())
			goes(t, "P20.4", m,
				step{alloc(0, 1, api.Plain, 1, 0, 0), word(2)}, step{alloc(0, 2, api.Plain, 0, 0, 0), word(3)}, step{store(0, 1, 0, 2), api.Reply{}}, step{store(0, 0, fields-1, 1), api.Reply{}},
				step{alloc(0, 1, api.Plain, 1, 0, 0), word(4)}, step{store(0, 1, 0, 1), api.Reply{}}, step{cleared(0, 0), api.Reply{}}, step{cleared(0, 1), api.Reply{}}, step{cleared(0, 2), api.Reply{}})
			m.Do(cycle)
			want(t, "P20.4: what a dead one leads to is there, what nothing leads to is gone", all(m), []uint64{1, 2, 3})
			m.Do(major())
			gone := []uint64{}
			if kind == api.Final {
				gone = []uint64{1, 2, 3} // it is queued, and holds the others still
			}
			want(t, "P20.2: behind a major cycle", all(m), gone)
		}
	}
}

// TestSlotAtMinor: P20.4: the roots are those ahead of the laying: what the slot held outlives the allocation's own minor cycle.
func TestSlotAtMinor(t *testing.T) {
	m := begun(t, small(), push(0, 2), alloc(0, 0, api.Plain, 0, 28, 0), alloc(0, 0, api.Plain, 0, 28, 0))
	goes(t, "P20.4", m, step{alloc(0, 0, api.Plain, 0, 8, 0), laid(3, api.CycleMinor)}, step{counted(), there([]uint64{3}, nil, []uint64{2}, nil)},
		step{minor(), cycled(api.CycleMinor)}, step{counted(), there(nil, []uint64{3}, nil, nil)})
}

// all tells what is there, by serial.
func all(m *mutator.Mutator) []uint64 {
	return slices.Sorted(slices.Values(slices.Concat(m.Do(counted()).Census...)))
}

// TestFinalizers: P20.6: DOC.md's registry a, b, where a holds b and nobody holds a; each is queued once, by majors alone.
func TestFinalizers(t *testing.T) {
	m := begun(t, small(), push(0, 3), alloc(0, 0, api.Final, 1, 0, 1), alloc(0, 1, api.Final, 1, 0, 2), store(0, 0, 0, 1), cleared(0, 0), cleared(0, 1))
	ok := api.Reply{}
	goes(t, "P20.6", m,
		step{minor(), cycled(api.CycleMinor)}, step{promote(), cycled(api.CycleAll)}, step{take(0, 0), refused(api.ErrHeapEmpty)},
		step{major(), cycled(api.CycleMajor)}, step{major(), cycled(api.CycleMajor)},
		step{take(0, 0), ok}, step{hash(0, 0), word(1)}, step{shape(0, 0), api.Reply{Nums: []int{api.Plain, 1, 0, 1}}}, step{load(0, 1, 0, 0), ok}, step{shape(0, 1), api.Reply{Nums: []int{api.Final, 1, 0, 2}}},
		step{cleared(0, 1), ok}, step{major(), cycled(api.CycleMajor)}, step{take(0, 2), refused(api.ErrHeapEmpty)},
		step{cleared(0, 0), ok}, step{major(), cycled(api.CycleMajor)}, step{counted(), there(nil, nil, nil, []uint64{2})}, step{take(0, 2), ok}, step{shape(0, 2), api.Reply{Nums: []int{api.Plain, 1, 0, 2}}},
		step{cleared(0, 2), ok}, step{major(), cycled(api.CycleMajor)}, step{take(0, 0), refused(api.ErrHeapEmpty)}, step{counted(), there(nil, nil, nil, nil)})
}

// TestFinalizersInOrder: P20.6: those that are lost at one cycle are queued in the order in which they were made.
func TestFinalizersInOrder(t *testing.T) {
	m := begun(t, small(), push(0, 4))
	for slot := range 4 {
		does(t, "P20.6", m, alloc(0, slot, api.Final, 0, 0, 0), word(uint64(slot+1)))
	}
	for _, slot := range []int{3, 0, 2} {
		does(t, "P20.6", m, cleared(0, slot), api.Reply{})
	}
	m.Do(major())
	for _, serial := range []uint64{1, 3, 4} {
		does(t, "P20.6", m, take(0, 0), api.Reply{})
		does(t, "P20.6: in their order", m, hash(0, 0), word(serial))
	}
	fails(t, "P20.6", m, take(0, 0), api.ErrHeapEmpty)
}

// TestWeakFields: P20.6: they change at majors alone, by what is in Reach behind the queueing.
func TestWeakFields(t *testing.T) {
	ok, null := api.Reply{}, refused(api.ErrHeapNull)
	m := begun(t, small(), push(0, 4), alloc(0, 0, api.Weak, 1, 0, 0), alloc(0, 1, api.Weak, 1, 0, 0), alloc(0, 2, api.Plain, 0, 0, 0), store(0, 0, 0, 2), alloc(0, 2, api.Final, 0, 0, 0), store(0, 1, 0, 2), cleared(0, 2))
	for _, o := range []api.Op{minor(), minor(), promote(), minor()} {
		m.Do(o)
		goes(t, "P20.6: at a minor cycle", m, step{load(0, 2, 0, 0), ok}, step{hash(0, 2), word(3)}, step{load(0, 2, 1, 0), ok}, step{hash(0, 2), word(4)}, step{cleared(0, 2), ok})
	}
	m.Do(major())
	goes(t, "P20.6: at a major one: lost, and queued", m, step{load(0, 2, 0, 0), ok}, step{hash(0, 2), null}, step{load(0, 2, 1, 0), ok}, step{hash(0, 2), word(4)}, step{take(0, 2), ok}, step{cleared(0, 2), ok})
	m.Do(major())
	goes(t, "P20.6: taken, and let go", m, step{load(0, 2, 1, 0), ok}, step{hash(0, 2), null}, step{counted(), there(nil, nil, nil, []uint64{1, 2})})
}

// TestEphemerons: P20.6: chains to their fixed point; a key that is queued holds its value; one without a key holds none.
func TestEphemerons(t *testing.T) {
	ok, null := api.Reply{}, refused(api.ErrHeapNull)
	// Slot 0 holds an ephemeron (1), whose key is 3 and whose value is 4; slot 1 one (2), whose key is 4 and whose value is 5. Slot 3 holds 3.
	m := begun(t, small(), push(0, 5), alloc(0, 0, api.Ephemeron, 2, 0, 0), alloc(0, 1, api.Ephemeron, 2, 0, 0), alloc(0, 3, api.Final, 0, 0, 0), alloc(0, 4, api.Plain, 0, 0, 0),
		store(0, 0, 0, 3), store(0, 0, 1, 4), store(0, 1, 0, 4), alloc(0, 4, api.Plain, 0, 0, 0), store(0, 1, 1, 4), cleared(0, 4))
	m.Do(major())
	goes(t, "P20.6: a chain", m, step{load(0, 4, 1, 1), ok}, step{hash(0, 4), word(5)}, step{cleared(0, 4), ok}, step{cleared(0, 3), ok}, step{minor(), cycled(api.CycleMinor)}, step{load(0, 4, 1, 1), ok}, step{hash(0, 4), word(5)}, step{cleared(0, 4), ok})
	m.Do(major())
	goes(t, "P20.6: the key is queued", m, step{load(0, 4, 0, 0), ok}, step{hash(0, 4), word(3)}, step{load(0, 4, 1, 1), ok}, step{hash(0, 4), word(5)}, step{take(0, 4), ok}, step{cleared(0, 4), ok})
	m.Do(major())
	for _, slot := range []int{0, 1} {
		for _, field := range []int{0, 1} {
			goes(t, "P20.6: the key is gone", m, step{load(0, 4, slot, field), ok}, step{hash(0, 4), null})
		}
	}
	goes(t, "P20.6: null is no key", m, step{alloc(0, 3, api.Plain, 0, 0, 0), word(6)}, step{store(0, 0, 1, 3), ok}, step{minor(), cycled(api.CycleMinor)}, step{load(0, 4, 0, 1), ok}, step{hash(0, 4), word(6)}, step{major(), cycled(api.CycleMajor)}, step{load(0, 4, 0, 1), ok}, step{hash(0, 4), null})
}

// TestRoom: P20.3: what is Kept, wherever it lies, and what is asked for fill the tenured space; at each size, of small objects and of big ones.
func TestRoom(t *testing.T) {
	for _, large := range []int{2, 30, 65536} {
		for _, buffer := range []int{0, 20, 64} {
			for n := 2; n <= 90; n++ {
				c := small()
				c.Large, c.Buffer, c.Slots = large, buffer, 16
				// Kept: 5 words in a slot, 3 by the registry, 2 by a value whose key is there; the rest is dead, and may be tenured.
				m := begun(t, c, push(0, 3), alloc(0, 0, api.Ephemeron, 3, 0, 0), alloc(0, 1, api.Plain, 0, 0, 0), store(0, 0, 1, 1), store(0, 0, 0, 0), alloc(0, 1, api.Final, 0, 1, 0))
				for _, o := range []api.Op{alloc(0, 1, api.Plain, 0, 15, 0), promote(), alloc(0, 1, api.Plain, 0, 20, 0), alloc(0, 1, api.Plain, 0, 20, 0), cleared(0, 1)} {
					if r := m.Do(o); r.Err != api.OK {
						t.Fatalf("%+v: error %d", o, r.Err)
					}
				}
				r := m.Do(alloc(0, 1, api.Plain, 0, n-2, 0))
				if a := m.Do(audit()).Audit; r.Err != api.OK || r.Word != 7 || a.Tenured > a.Limit {
					t.Errorf("P20.3: %d words, Large %d, Buffer %d: %+v, %+v", n, large, buffer, r, a)
				}
			}
		}
	}
}

// TestNoRoom: P20.3: an allocation that fails tells a major cycle; all holds on behind it, and what is let go makes room.
func TestNoRoom(t *testing.T) {
	for _, large := range []int{2, 65536} {
		c := small()
		c.Tenured, c.Large, c.Slots = 64, large, 100
		m := begun(t, c, push(0, 100))
		words := 0
		for slot := range 100 {
			r := m.Do(alloc(0, slot, api.Plain, 0, 2, 0))
			if r.Err == api.ErrHeapMemory {
				want(t, fmt.Sprint("P20.3: it fails at ", words, " words"), ran(r.Cycles, api.CycleMajor) && words+4 > 64 && r.Word == 0, true)
				break
			}
			words += 4
		}
		does(t, "P20.3: again", m, alloc(0, 99, api.Plain, 0, 2, 0), api.Reply{Err: api.ErrHeapMemory, Cycles: []int{api.CycleMajor}})
		does(t, "P20.3: the slot stays", m, hash(0, 99), refused(api.ErrHeapNull))
		want(t, "P20.3: nothing is lost", m.Do(audit()).Audit.Live, words)
		for slot := range 50 {
			does(t, "P20.3", m, cleared(0, slot), api.Reply{})
		}
		want(t, "P20.3: behind the letting go", m.Do(alloc(0, 99, api.Plain, 0, 2, 0)).Word, words/4+1)
	}
}
