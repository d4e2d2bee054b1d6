package bag

import (
	"cmp"
	"iter"
	"slices"
)

// Table: values by key, in the keys' order.
type Table[K cmp.Ordered, V any] struct {
	keys   []K // rising, none twice
	values []V // that of keys[i] is values[i]
}

// NewTable makes an empty table.
func NewTable[K cmp.Ordered, V any]() *Table[K, V] { return &Table[K, V]{} }

// Set lays v at k: whether nothing was there.
func (t *Table[K, V]) Set(k K, v V) bool {
	at, found := place(t.keys, k)
	if found {
		t.values[at] = v
		return false
	}
	t.keys = slices.Insert(t.keys, at, k)
	t.values = slices.Insert(t.values, at, v)
	return true
}

// Get tells what is at k.
func (t *Table[K, V]) Get(k K) (V, bool) {
	at, found := place(t.keys, k)
	if !found {
		var none V
		return none, false
	}
	return t.values[at], true
}

// Drop takes it away: whether something was there.
func (t *Table[K, V]) Drop(k K) bool {
	at, found := place(t.keys, k)
	if found {
		t.keys = slices.Delete(t.keys, at, at+1)
		t.values = slices.Delete(t.values, at, at+1)
	}
	return found
}

// Near tells the greatest key not above k.
func (t *Table[K, V]) Near(k K) (K, V, bool) {
	at, found := place(t.keys, k)
	if !found {
		at-- // the one below where k would stand
	}
	if at < 0 {
		var noKey K
		var none V
		return noKey, none, false
	}
	return t.keys[at], t.values[at], true
}

// Len tells how many there are.
func (t *Table[K, V]) Len() int { return len(t.keys) }

// All gives them, rising.
func (t *Table[K, V]) All() iter.Seq2[K, V] {
	return func(yield func(K, V) bool) {
		values := copied(slices.Values(t.values))
		for i, k := range copied(slices.Values(t.keys)) {
			if !yield(k, values[i]) {
				return
			}
		}
	}
}
