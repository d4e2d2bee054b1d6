package bag_test

import (
	"maps"
	"math"
	"slices"
	"testing"

	"midden/bag"
)

func TestNewTable(t *testing.T) {
	w := bag.NewTable[float64, []int]()
	if w == nil {
		t.Fatal("P1.1: nil")
	}
	want(t, "P1.1: Len", w.Len(), 0)
	want(t, "P1.1: All", pairs(w.All()), "[]")
	var n *bag.Table[int, uint64] = bag.NewIntTable()
	var s *bag.Table[string, int] = bag.NewTextTable()
	if n == nil || s == nil {
		t.Fatal("P1.1: nil")
	}
	want(t, "P1.1: Len", []int{n.Len(), s.Len()}, "[0 0]")
}

// TestTableExample: the chapter's example 3.
func TestTableExample(t *testing.T) {
	w := bag.NewTextTable()
	want(t, "P1.4: Set", []bool{w.Set("b", 2), w.Set("a", 1), w.Set("b", 3)}, "[true true false]")
	want(t, "P1.5: All", pairs(w.All()), []any{"a", 1, "b", 3})
	if k, v, ok := w.Near("aa"); k != "a" || v != 1 || !ok {
		t.Errorf("P1.4: Near: %q, %d, %v", k, v, ok)
	}
	if k, v, ok := w.Near("A"); k != "" || v != 0 || ok {
		t.Errorf("P1.4: Near: %q, %d, %v", k, v, ok)
	}
	want(t, "P1.4: Drop", []bool{w.Drop("a"), w.Drop("a")}, "[true false]")
	want(t, "P1.5: Len", w.Len(), 1)
}

func TestTableGet(t *testing.T) {
	w := tableOf(t, "m", "a", "z", "")
	for k, v := range map[string]int{"m": 1, "a": 2, "z": 3, "": 4} {
		if got, ok := w.Get(k); got != v || !ok {
			t.Errorf("P1.4: Get(%q): %d, %v", k, got, ok)
		}
	}
	for _, k := range []string{"\x00", "A", "aa", "l", "n", "zz"} {
		if got, ok := w.Get(k); got != 0 || ok {
			t.Errorf("P1.4: Get(%q): %d, %v", k, got, ok)
		}
	}
	want(t, "P1.4: Set", w.Set("m", 0), false)
	if got, ok := w.Get("m"); got != 0 || !ok {
		t.Errorf("P1.4: Get: %d, %v", got, ok)
	}
	want(t, "P1.5: Len", w.Len(), 4)
}

// TestTableOfNothing: asking an empty table answers zero values, also one that was emptied.
func TestTableOfNothing(t *testing.T) {
	w := bag.NewIntTable()
	for range 2 {
		if v, ok := w.Get(0); v != 0 || ok {
			t.Errorf("P1.4: Get: %d, %v", v, ok)
		}
		if k, v, ok := w.Near(math.MaxInt); k != 0 || v != 0 || ok {
			t.Errorf("P1.4: Near: %d, %d, %v", k, v, ok)
		}
		want(t, "P1.4: Drop", w.Drop(0), false)
		want(t, "P1.4: Set, Drop", []bool{w.Set(7, 9), w.Drop(7)}, "[true true]")
	}
}

func TestTableDrop(t *testing.T) {
	w := tableOf(t, "a", "b", "c")
	want(t, "P1.4: Drop", []bool{w.Drop("b"), w.Drop("b"), w.Drop("bb")}, "[true false false]")
	want(t, "P1.5: All", pairs(w.All()), []any{"a", 1, "c", 3})
	if v, ok := w.Get("b"); v != 0 || ok {
		t.Errorf("P1.4: Get: %d, %v", v, ok)
	}
	want(t, "P1.4: Set", w.Set("b", 7), true)
	want(t, "P1.4: Drop", []bool{w.Drop("a"), w.Drop("c")}, "[true true]")
	want(t, "P1.5: All", pairs(w.All()), []any{"b", 7})
}

func TestTableNear(t *testing.T) {
	w := bag.NewIntTable()
	for _, k := range []int{10, math.MinInt, 20, math.MaxInt} {
		w.Set(k, uint64(k)+1)
	}
	for k, near := range map[int]int{
		math.MinInt: math.MinInt, math.MinInt + 1: math.MinInt, 9: math.MinInt,
		10: 10, 11: 10, 19: 10, 20: 20, math.MaxInt - 1: 20, math.MaxInt: math.MaxInt,
	} {
		if got, v, ok := w.Near(k); got != near || v != uint64(near)+1 || !ok {
			t.Errorf("P1.4: Near(%d): %d, %d, %v", k, got, v, ok)
		}
	}
	w.Drop(math.MinInt)
	for _, k := range []int{math.MinInt, -1, 9} {
		if got, v, ok := w.Near(k); got != 0 || v != 0 || ok {
			t.Errorf("P1.4: Near(%d): %d, %d, %v", k, got, v, ok)
		}
	}
}

// TestTableFloats: cmp.Compare lays NaN below all, like itself, and makes both zeros one.
func TestTableFloats(t *testing.T) {
	w := bag.NewTable[float64, string]()
	nan, minusZero := math.NaN(), math.Copysign(0, -1)
	for _, k := range []float64{1, math.Inf(1), nan, math.Inf(-1), 0} {
		want(t, "P1.4: Set", w.Set(k, "once"), true)
	}
	want(t, "P1.4: Set", []bool{w.Set(nan, "no number"), w.Set(minusZero, "zero")}, "[false false]")
	want(t, "P1.5: All", pairs(w.All()), "[NaN no number -Inf once 0 zero 1 once +Inf once]")
	for _, k := range []float64{minusZero, 0} {
		if v, ok := w.Get(k); v != "zero" || !ok {
			t.Errorf("P1.4: Get(%v): %q, %v", k, v, ok)
		}
	}
	if v, ok := w.Get(nan); v != "no number" || !ok {
		t.Errorf("P1.4: Get(NaN): %q, %v", v, ok)
	}
	if k, v, ok := w.Near(nan); k == k || v != "no number" || !ok {
		t.Errorf("P1.4: Near: %v, %q, %v", k, v, ok)
	}
	want(t, "P1.4: Drop", []bool{w.Drop(math.Inf(-1)), w.Drop(minusZero)}, "[true true]")
	if k, v, ok := w.Near(0.5); k == k || v != "no number" || !ok {
		t.Errorf("P1.4: Near: %v, %q, %v", k, v, ok)
	}
	want(t, "P1.4: Drop", []bool{w.Drop(nan), w.Drop(nan)}, "[true false]")
	if k, v, ok := w.Near(nan); k != 0 || v != "" || ok {
		t.Errorf("P1.4: Near: %v, %q, %v", k, v, ok)
	}
	want(t, "P1.5: Len", w.Len(), 2)
}

// TestTableTexts: texts are ordered byte by byte.
func TestTableTexts(t *testing.T) {
	w := tableOf(t, "b", "é", "", "a\x00", "B", "\xff", "a")
	want(t, "P1.5", pairs(w.All()), []any{"", 3, "B", 5, "a", 7, "a\x00", 4, "b", 1, "é", 2, "\xff", 6})
}

// TestTableCarries: a list that is a value is the one that was handed in.
func TestTableCarries(t *testing.T) {
	things := []int{1, 2}
	w := bag.NewTable[int, []int]()
	w.Set(5, things)
	things[0] = 7
	x, _ := w.Get(5)
	want(t, "Get", x, "[7 2]")
	x[1] = 8
	want(t, "Get", things, "[7 8]")
}

func TestTableAllEarly(t *testing.T) {
	w := tableOf(t, "c", "b", "a")
	for stop := 1; stop <= 4; stop++ {
		var given []string
		w.All()(func(k string, v int) bool {
			given = append(given, k)
			return len(given) < stop
		})
		want(t, "P1.5", given, []string{"a", "b", "c"}[:min(stop, 3)])
	}
	want(t, "P1.5: Len", w.Len(), 3)
}

// TestTableAllFrozen: a walk gives what was there when it began, the next one what is there then.
func TestTableAllFrozen(t *testing.T) {
	w := bag.NewTextTable()
	seq := w.All()
	want(t, "P1.5", pairs(seq), "[]")
	for i, k := range []string{"d", "c", "b"} {
		w.Set(k, i)
	}
	var given []any
	for k, v := range seq {
		given = append(given, k, v)
		w.Set("a"+k, 7)
		w.Set("c", 8)
		w.Drop("b")
		w.Drop("d")
	}
	want(t, "P1.5", given, []any{"b", 2, "c", 1, "d", 0})
	want(t, "P1.5", pairs(seq), []any{"ab", 7, "ac", 7, "ad", 7, "c", 8})
}

func TestTableAllWithinItself(t *testing.T) {
	w := tableOf(t, "b", "c")
	seq := w.All()
	var given []string
	for k := range seq {
		w.Set("a"+k, 1)
		for l := range seq {
			given = append(given, k+l)
		}
	}
	want(t, "P1.5", given, "[bab bb bc cab cac cb cc]")
}

// TestTablesApart: no container touches another one.
func TestTablesApart(t *testing.T) {
	a, b := tableOf(t, "a", "b", "c"), bag.NewTextTable()
	for k, v := range a.All() {
		b.Set(k, v)
	}
	b.Drop("a")
	b.Set("b", 9)
	want(t, "P1.6", pairs(a.All()), []any{"a", 1, "b", 2, "c", 3})
	a.Drop("c")
	a.Set("b", 8)
	want(t, "P1.6", pairs(b.All()), []any{"b", 9, "c", 3})
	want(t, "P1.6", pairs(a.All()), []any{"a", 1, "b", 8})
}

// TestTableModel holds a table against a map whose keys are sorted.
func TestTableModel(t *testing.T) {
	for _, spread := range []int{1, 2, 3, 10, 100} {
		w := bag.NewIntTable()
		model := map[int]uint64{}
		d := dice(spread)
		for i := range 2000 {
			k := d.below(spread) - spread/2
			_, there := model[k]
			switch d.below(5) {
			case 0, 1:
				want(t, "P1.4: Set", w.Set(k, uint64(i)), !there)
				model[k] = uint64(i)
			case 2:
				want(t, "P1.4: Drop", w.Drop(k), there)
				delete(model, k)
			case 3:
				if v, ok := w.Get(k); v != model[k] || ok != there {
					t.Fatalf("P1.4: Get(%d): %d, %v of %v", k, v, ok, model)
				}
			case 4:
				near(t, w, model, k)
			}
			sameTable(t, w, model)
		}
	}
}

func near(t *testing.T, w *bag.IntTable, model map[int]uint64, k int) {
	t.Helper()
	best, value, found := 0, uint64(0), false
	for m, v := range model {
		if m <= k && (!found || m > best) {
			best, value, found = m, v, true
		}
	}
	if got, v, ok := w.Near(k); got != best || v != value || ok != found {
		t.Fatalf("P1.4: Near(%d): %d, %d, %v of %v", k, got, v, ok, model)
	}
}

func sameTable(t *testing.T, w *bag.IntTable, model map[int]uint64) {
	t.Helper()
	keys := slices.Sorted(maps.Keys(model))
	var given []int
	for k, v := range w.All() {
		given = append(given, k)
		if v != model[k] {
			t.Fatalf("P1.5: %d at %d, want %d", v, k, model[k])
		}
	}
	if !slices.Equal(given, keys) || w.Len() != len(keys) {
		t.Fatalf("P1.5: %v, %d, want %v", given, w.Len(), keys)
	}
}
