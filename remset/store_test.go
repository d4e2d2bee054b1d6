package remset_test

import (
	"slices"
	"testing"

	"midden/api"
)

// TestNewIsEmpty: whatever the arena holds, and it is left as it is.
func TestNewIsEmpty(t *testing.T) {
	a, s := memory(t)
	list(t, "P6.1", s)
	missing(t, s, 0, false)
	point(t, a, 193, 0, 1)
	hold(t, a, true, 193, 197)
	list(t, "P6.1", s)
	want(t, "P6.1: Held", heldAt(a), []int{193, 197})
}

// TestStoreWhere: only a young pointer in a tenured object is remembered.
func TestStoreWhere(t *testing.T) {
	for _, c := range []struct {
		at, to int
		is     bool
	}{
		{193, 1, true}, {193, 5, true}, {193, 65, true}, {205, 1, true}, // eden and from
		{193, 129, false}, {193, 0, false}, {193, 193, false}, {193, 197, false}, // to, null, itself, tenured
		{1, 5, false}, {1, 1, false}, {65, 1, false}, {129, 1, false}, {129, 65, false}, {1, 193, false},
	} {
		a, s := memory(t)
		store(t, s, c.at, 1, c.to, api.OK)
		if p, ok := a.Ptr(c.at, 1); p != c.to || !ok {
			t.Errorf("P6.2: Store(%d, 1, %d) has written %d, %v", c.at, c.to, p, ok)
		}
		var in []int
		if c.is {
			in = []int{c.at}
		}
		list(t, "P6.2", s, in...)
		want(t, "P6.2: Held", heldAt(a), in)
	}
}

// TestStoreBehindSwap: which survivor space is young is asked at each store.
func TestStoreBehindSwap(t *testing.T) {
	a, s := memory(t)
	a.Swap()
	store(t, s, 193, 0, 65, api.OK)
	list(t, "P6.2: A is the to space", s)
	store(t, s, 197, 0, 129, api.OK)
	list(t, "P6.2: B is the from space", s, 197)
	a.Swap()
	store(t, s, 193, 0, 65, api.OK)
	list(t, "P6.2: A is the from space", s, 197, 193)
}

// TestStoreOrder: in the order of the first stores, each once, whatever is stored later.
func TestStoreOrder(t *testing.T) {
	a, s := memory(t)
	for _, at := range []int{201, 193, 205, 201, 193, 197, 205} {
		store(t, s, at, 0, 1, api.OK)
		store(t, s, at, 1, 65, api.OK)
	}
	list(t, "P6.2", s, 201, 193, 205, 197)
	for _, at := range []int{193, 197, 201, 205} {
		store(t, s, at, 0, 0, api.OK)
		store(t, s, at, 1, 193, api.OK)
	}
	list(t, "P6.2: they stay", s, 201, 193, 205, 197)
	want(t, "P6.2: Held", heldAt(a), []int{193, 197, 201, 205})
}

// TestStoreGoesByTheList: who is in it, isn't told by Held.
func TestStoreGoesByTheList(t *testing.T) {
	a, s := memory(t)
	hold(t, a, true, 193)
	store(t, s, 193, 0, 1, api.OK)
	list(t, "P6.2: Held, and not in the list", s, 193)
	hold(t, a, false, 193)
	store(t, s, 193, 1, 1, api.OK)
	list(t, "P6.2: in the list, and not Held", s, 193)
	s.Prune()
	want(t, "P6.4: Held", heldAt(a), []int{193})
}

// TestStoreWritesOneField: and of the header Held alone.
func TestStoreWritesOneField(t *testing.T) {
	a, s := made(t, small())
	plain(t, a, api.SpaceEden, 0)
	head := api.Head{Serial: 1<<62 + 3, Kind: api.Ephemeron, Ptrs: 3, Raws: 2, Age: 15, Site: 255}
	at := put(t, a, api.SpaceTenured, head)
	a.SetRaw(at, 0, 77)
	ahead := image(a)
	store(t, s, at, 1, 1, api.OK)
	head.Held = true
	if h, ok := a.Head(at); h != head || !ok {
		t.Errorf("P6.2: the header is %+v, want %+v", h, head)
	}
	a.SetPtr(at, 1, 0)
	hold(t, a, false, at)
	want(t, "P6.2: all other words", image(a), ahead)
}

// TestStoreEveryKind: weak fields, keys and values count like others.
func TestStoreEveryKind(t *testing.T) {
	for _, kind := range []int{api.Plain, api.Weak, api.Ephemeron, api.Final} {
		for i := range 3 {
			a, s := made(t, small())
			plain(t, a, api.SpaceEden, 0)
			at := put(t, a, api.SpaceTenured, api.Head{Kind: kind, Ptrs: 3})
			store(t, s, at, i, 1, api.OK)
			list(t, "P6.2", s, at)
			s.Prune()
			list(t, "P6.4", s, at)
			s.Rebuild()
			list(t, "P6.5", s, at)
		}
	}
}

// TestStoreRefused: each error, and the one that is named first; nothing has changed then.
func TestStoreRefused(t *testing.T) {
	a, s := memory(t)
	store(t, s, 197, 0, 1, api.OK)
	ahead := told(a, s)
	gone := slices.Concat(odd, []int{2, 3, 4, 9, 64, 70, 133, 194, 195, 196, 209, 292, 293})
	for _, at := range gone {
		for _, i := range []int{-1, 0, 2} {
			for _, to := range []int{0, 1, 3} {
				store(t, s, at, i, to, api.ErrRemObject)
			}
		}
		if at != 0 {
			store(t, s, 193, 0, at, api.ErrRemTarget)
			store(t, s, 1, 1, at, api.ErrRemTarget)
			store(t, s, 193, 2, at, api.ErrRemField)
		}
	}
	for _, i := range slices.Concat([]int{2, 3, 4095, 4096}, slices.DeleteFunc(slices.Clone(odd), func(i int) bool { return i == 0 })) {
		for _, to := range []int{0, 1, 3, -1} {
			store(t, s, 193, i, to, api.ErrRemField)
		}
	}
	want(t, "P6.2: a refusal changes nothing", told(a, s), ahead)
}

// TestStoreAboveTheTop: what was cut off is no object any more.
func TestStoreAboveTheTop(t *testing.T) {
	a, s := memory(t)
	a.Cut(api.SpaceTenured, 205)
	store(t, s, 205, 0, 1, api.ErrRemObject)
	a.Cut(api.SpaceTenured, 204)
	store(t, s, 201, 0, 1, api.ErrRemObject)
	a.Cut(api.SpaceEden, 5)
	store(t, s, 193, 0, 5, api.ErrRemTarget)
	store(t, s, 193, 0, 1, api.OK)
	list(t, "P6.2", s, 193)
}

// TestStoreOverNoAddress: a field may be written, whatever word stands there.
func TestStoreOverNoAddress(t *testing.T) {
	a, s := memory(t)
	for i, w := range []uint64{words, 1<<64 - 1} {
		a.SetWord(195+i, w)
		store(t, s, 193, i, 1, api.OK)
		if p, ok := a.Ptr(193, i); p != 1 || !ok {
			t.Errorf("P6.2: Ptr(193, %d) = %d, %v", i, p, ok)
		}
	}
	list(t, "P6.2", s, 193)
}

// TestStoreIntoMany: the last field of an object that has as many as may be, in the greatest arena.
func TestStoreIntoMany(t *testing.T) {
	a, s := great(t)
	at := plain(t, a, api.SpaceTenured, 0, api.MaxPtrs)[1]
	to := plain(t, a, api.SpaceEden, 0)[0]
	store(t, s, at, api.MaxPtrs, to, api.ErrRemField)
	store(t, s, at, api.MaxPtrs-1, to, api.OK)
	list(t, "P6.2", s, at)
	s.Prune()
	list(t, "P6.4", s, at)
	s.Rebuild()
	list(t, "P6.5", s, at)
}
