package mutator_test

import (
	"fmt"
	"testing"

	"midden/api"
)

// TestHolders: OpRetained and OpPath of what slots, handles, the queue and fields of all kinds hold.
func TestHolders(t *testing.T) {
	plain := func(thread, slot int) api.Op { return alloc(thread, slot, api.Plain, 1, 0, 0) }
	for what, x := range map[string]struct {
		ops  []api.Op
		n    int
		path []int
	}{
		"an object that nothing else knows":           {[]api.Op{plain(0, 0)}, 3, nil},
		"one that holds itself":                       {[]api.Op{plain(0, 0), store(0, 0, 0, 0)}, 3, nil},
		"one that a second slot holds":                {[]api.Op{plain(0, 0), copied(0, 3, 0)}, 3, []int{1}},
		"one that a lower frame holds":                {[]api.Op{plain(0, 0), opened(0, 0), push(0, 1), fetch(0, 0, 0), closing(0)}, 3, []int{1}},
		"one that another thread holds":               {[]api.Op{plain(0, 0), opened(0, 0), push(1, 1), fetch(1, 0, 0), closing(0)}, 3, []int{1}},
		"one that a handle holds":                     {[]api.Op{plain(0, 0), opened(0, 0)}, 3, []int{1}},
		"one that a field of another one holds":       {[]api.Op{plain(0, 1), plain(0, 0), store(0, 1, 0, 0)}, 3, []int{1, 2}},
		"one that a dead one holds":                   {[]api.Op{plain(0, 1), plain(0, 0), store(0, 1, 0, 0), cleared(0, 1)}, 3, nil},
		"one that what it holds holds":                {[]api.Op{plain(0, 1), plain(0, 0), store(0, 0, 0, 1), store(0, 1, 0, 0), cleared(0, 1)}, 6, nil},
		"one that leads to what another slot holds":   {[]api.Op{plain(0, 1), plain(0, 0), store(0, 0, 0, 1)}, 3, nil},
		"one that a weak field alone holds":           {[]api.Op{alloc(0, 1, api.Weak, 2, 0, 0), plain(0, 0), store(0, 1, 0, 0)}, 3, nil},
		"one that a weak object's strong field holds": {[]api.Op{alloc(0, 1, api.Weak, 2, 0, 0), plain(0, 0), store(0, 1, 1, 0)}, 3, []int{1, 2}},
		"a key":                                                    {[]api.Op{alloc(0, 1, api.Ephemeron, 3, 0, 0), plain(0, 0), store(0, 1, 0, 0)}, 3, nil},
		"a key with a value":                                       {[]api.Op{alloc(0, 1, api.Ephemeron, 3, 0, 0), plain(0, 2), store(0, 1, 1, 2), cleared(0, 2), plain(0, 0), store(0, 1, 0, 0)}, 6, nil},
		"a value that its ephemeron holds":                         {[]api.Op{alloc(0, 1, api.Ephemeron, 3, 0, 0), plain(0, 0), store(0, 1, 1, 0), store(0, 1, 0, 1)}, 3, nil},
		"what an ephemeron's field holds":                          {[]api.Op{alloc(0, 1, api.Ephemeron, 3, 0, 0), plain(0, 0), store(0, 1, 2, 0)}, 3, []int{1, 2}},
		"an ephemeron that holds its value":                        {[]api.Op{alloc(0, 0, api.Ephemeron, 2, 0, 0), plain(0, 1), store(0, 0, 0, 0), store(0, 0, 1, 1), cleared(0, 1)}, 7, nil},
		"one that the registry alone knows":                        {[]api.Op{alloc(0, 0, api.Final, 0, 0, 0)}, 2, nil},
		"one that a Final one holds that is in the registry alone": {[]api.Op{alloc(0, 1, api.Final, 1, 0, 0), plain(0, 0), store(0, 1, 0, 0), cleared(0, 1)}, 3, nil},
		"one of a long list":                                       {[]api.Op{plain(0, 3), plain(0, 2), store(0, 3, 0, 2), plain(0, 1), store(0, 2, 0, 1), plain(0, 0), store(0, 1, 0, 0), cleared(0, 1), cleared(0, 2)}, 3, []int{1, 2, 3, 4}},
		"the shorter of two":                                       {[]api.Op{plain(0, 3), plain(0, 2), store(0, 3, 0, 2), plain(0, 0), store(0, 2, 0, 0)}, 3, []int{2, 3}},
		"the least of two":                                         {[]api.Op{plain(0, 3), plain(0, 2), plain(0, 0), store(0, 2, 0, 0), store(0, 3, 0, 0)}, 3, []int{1, 3}},
		"serials with a gap":                                       {[]api.Op{plain(0, 3), plain(0, 3), plain(0, 2), plain(0, 0), store(0, 3, 0, 0), cleared(0, 2)}, 3, []int{2, 4}},
		"what it holds goes":                                       {[]api.Op{plain(0, 0), alloc(0, 1, api.Plain, 1, 4, 0), store(0, 0, 0, 1), cleared(0, 1)}, 10, nil},
		"by its own top frame":                                     {[]api.Op{plain(0, 0), push(0, 2), plain(0, 1), plain(0, 0), store(0, 1, 0, 0)}, 3, []int{2, 3}},
	} {
		c := two()
		m := begun(t, c, append([]api.Op{push(0, 4)}, x.ops...)...)
		was := state(m)
		does(t, "P19.2, P20.8: "+what, m, retained(0, 0), number(x.n))
		does(t, "P19.2: "+what, m, path(0, 0), pathed(x.path...))
		want(t, "P19.3: "+what, state(m), was)
		want(t, "P19.2: Path's slot holds what it held: "+what, m.Do(hash(0, 0)).Err, api.OK)
	}
}

// TestHoldersQueue: the queue is a root; the object was queued, and taken of another's field.
func TestHoldersQueue(t *testing.T) {
	m := begun(t, two(), push(0, 2), alloc(0, 0, api.Final, 2, 0, 0), alloc(0, 1, api.Weak, 1, 0, 0), store(0, 1, 0, 0), cleared(0, 0))
	does(t, "P19.2", m, major(), cycled(api.CycleMajor))
	does(t, "P19.2", m, load(0, 0, 1, 0), api.Reply{})
	does(t, "P19.2: the queue holds it", m, path(0, 0), pathed(1))
	does(t, "P19.2: the queue's pointer counts as null, too", m, retained(0, 0), number(4))
	does(t, "P19.2", m, cleared(0, 0), api.Reply{})
	does(t, "P19.2", m, take(0, 0), api.Reply{})
	does(t, "P19.2: it is out of the queue", m, path(0, 0), pathed())
}

// TestHoldersLens: doc/17-lens.md's examples, object by object.
func TestHoldersLens(t *testing.T) {
	m := begun(t, small(), push(0, 7),
		alloc(0, 0, api.Plain, 2, 0, 0), alloc(0, 1, api.Plain, 1, 0, 0), alloc(0, 2, api.Plain, 2, 0, 0), alloc(0, 3, api.Plain, 0, 0, 0), alloc(0, 4, api.Ephemeron, 2, 0, 0), alloc(0, 5, api.Plain, 0, 0, 0),
		store(0, 0, 0, 1), store(0, 0, 1, 2), store(0, 1, 0, 3), store(0, 2, 0, 3), store(0, 2, 1, 4), store(0, 4, 0, 1), store(0, 4, 1, 5))
	for slot := 1; slot < 6; slot++ {
		does(t, "P19.2", m, cleared(0, slot), api.Reply{})
	}
	goes(t, "P20.8", m,
		step{retained(0, 0), number(19)}, step{path(0, 0), pathed()},
		step{load(0, 1, 0, 0), api.Reply{}}, step{retained(0, 1), number(5)}, step{path(0, 1), pathed(1, 2)}, step{load(0, 6, 1, 0), api.Reply{}}, step{cleared(0, 1), api.Reply{}},
		step{retained(0, 6), number(2)}, step{path(0, 6), pathed(1, 2, 4)},
		step{load(0, 2, 0, 1), api.Reply{}}, step{retained(0, 2), number(10)}, step{path(0, 2), pathed(1, 3)},
		step{load(0, 4, 2, 1), api.Reply{}}, step{path(0, 4), pathed(3, 5)}, step{cleared(0, 2), api.Reply{}}, step{path(0, 4), pathed(1, 3, 5)}, step{retained(0, 4), number(6)},
		step{load(0, 5, 4, 1), api.Reply{}}, step{cleared(0, 4), api.Reply{}}, step{retained(0, 5), number(2)}, step{path(0, 5), pathed()},
	)
}

// TestHoldersErrors: heap.Shape's, of any slot.
func TestHoldersErrors(t *testing.T) {
	m := begun(t, two(), push(0, 2), alloc(0, 0, api.Plain, 0, 0, 0))
	for _, x := range []struct {
		thread, slot int
		e            api.Errno
	}{{2, 0, api.ErrRootsThread}, {-1, 0, api.ErrRootsThread}, {1, 0, api.ErrRootsFrame}, {1, -1, api.ErrRootsFrame}, {0, 2, api.ErrRootsSlot}, {0, -1, api.ErrRootsSlot}, {0, greatest, api.ErrRootsSlot}, {0, least, api.ErrRootsSlot}, {0, 1, api.ErrHeapNull}} {
		fails(t, fmt.Sprintf("P19.2: thread %d, slot %d", x.thread, x.slot), m, retained(x.thread, x.slot), x.e)
		fails(t, fmt.Sprintf("P19.2: thread %d, slot %d", x.thread, x.slot), m, path(x.thread, x.slot), x.e)
	}
}
