package weak_test

import (
	"fmt"
	"slices"
	"testing"

	"midden/api"
	"midden/cell"
	"midden/weak"
)

// Null in the registry: what becomes of it isn't said; all else is settled.
func TestSettleWithNullInTheRegistry(t *testing.T) {
	x, l := finals(t, 3)
	x.hold(t, 0, l[0], 0, l[1], l[2], 0)
	x.mark(l[1])
	queued, cleared, e := weak.Settle(x.a, x.m, x.r, 1)
	null := func(at int) bool { return at == 0 }
	want(t, "P10.4", []any{slices.DeleteFunc(queued, null), cleared, int(e)}, []any{[]int{l[0], l[2]}, 0, 0})
	want(t, "P10.4: the registry", slices.DeleteFunc(x.r.List(), null), []int{l[1]})
	x.marked(t, "P10.4", l...)
}

// Addresses of no object in the registry: the call ends, and all else is settled.
func TestSettleWithWrongAddresses(t *testing.T) {
	for _, wrong := range append(slices.Clone(odd), 2, 7, 64, 65, 129, 193, 292, 293) {
		x, l := finals(t, 3)
		w := x.lay(t, api.SpaceTenured, api.Weak, l[1])
		x.hold(t, wrong, l[0], wrong, l[2], wrong)
		x.mark(w, l[2])
		queued, cleared, e := weak.Settle(x.a, x.m, x.r, 2)
		if !slices.Contains(queued, l[0]) || !slices.Contains(x.r.List(), l[2]) || cleared != 1 || e != api.OK {
			t.Errorf("rule 10: with %d: %v, %v, %d, error %d", wrong, queued, x.r.List(), cleared, e)
		}
		x.list(t, "rule 10", x.r.List()...)
	}
}

// Pointer fields that hold no object's address.
func TestWrongFields(t *testing.T) {
	for _, word := range []uint64{2, 3, 64, 65, 100, 292, 293, 1 << 20, 1 << 40, 1 << 63, 1<<64 - 1} {
		for field := range 2 {
			x := made(t, small())
			l := x.plain(t, 2)
			e := x.lay(t, api.SpaceTenured, api.Ephemeron, l[0], l[1])
			w := x.lay(t, api.SpaceTenured, api.Weak, l[0])
			good := x.lay(t, api.SpaceTenured, api.Ephemeron, l[0], l[1])
			x.a.SetWord(e+2+field, word)
			x.a.SetWord(w+2, word)
			x.reach(t, 2, e, w, good, l[0])
			if !x.m.Has(l[1]) {
				t.Errorf("rule 10: with %d in field %d another ephemeron doesn't lead to its value", word, field)
			}
			if _, _, got := weak.Settle(x.a, x.m, x.r, 2); got != api.OK {
				t.Errorf("rule 10: with %d in field %d: error %d", word, field, got)
			}
			x.fields(t, "P10.4", good, l[0], l[1])
		}
	}
}

// A map of another size isn't promised anything, but the calls end.
func TestMapsOfOtherSizes(t *testing.T) {
	for _, words := range []int{0, 1, 64, 292, 294, 1 << 20} {
		x, l := finals(t, 2)
		x.add(t, l...)
		x.lay(t, api.SpaceEden, api.Ephemeron, l[0], l[1])
		x.m = mapOf(t, words)
		x.refused(t, l, 1, api.ErrMarksSize)
		x.refused(t, nil, 9, api.ErrTraceWorkers)
		weak.Settle(x.a, x.m, x.r, 1)
	}
}

// TestAnyWords: memories that aren't sound at all: the calls end, and tell the same by however many workers.
func TestAnyWords(t *testing.T) {
	for seed := range 300 {
		var told string
		for _, workers := range []int{1, 2, 8} {
			d := dice(seed)
			x, ats := d.memory(t, small())
			x.scatter(t, &d)
			var from []int
			for _, at := range d.some(ats, 6) {
				if _, ok := x.a.Head(at); ok {
					from = append(from, at)
				}
			}
			x.reach(t, workers, from...)
			queued, cleared, e := weak.Settle(x.a, x.m, x.r, workers)
			now := fmt.Sprint(queued, cleared, e, x.told())
			if workers == 1 {
				told = now
			}
			want(t, "P10.5: by more workers", now, told)
			want(t, "P10.4: the error", e, api.OK)
		}
	}
}

// scatter writes anything into some words, and makes the registry hold any addresses.
func (x *memory) scatter(t *testing.T, d *dice) {
	t.Helper()
	words := wordsIn(x.a)
	for range d.below(80) {
		meta, _ := cell.Pack(d.head())
		x.a.SetWord(1+d.below(words-1), []uint64{meta, meta, cell.Filler(1 + d.below(3)), uint64(d.below(words)), uint64(d.below(words)), d.word()}[d.below(6)])
	}
	x.r.Update(func(at int) int {
		if (at+words)%3 == 0 {
			return at*7%(words+3) - 2
		}
		return at
	})
}
