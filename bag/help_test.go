package bag_test

import (
	"fmt"
	"iter"
	"testing"

	"midden/api"
	"midden/bag"
)

func want(t *testing.T, what string, got, want any) {
	t.Helper()
	if g, w := fmt.Sprint(got), fmt.Sprint(want); g != w {
		t.Errorf("%s: %s, want %s", what, g, w)
	}
}

func list[T any](seq iter.Seq[T]) []T {
	var l []T
	for x := range seq {
		l = append(l, x)
	}
	return l
}

// pairs tells keys and values in turn.
func pairs[K, V any](seq iter.Seq2[K, V]) []any {
	var l []any
	for k, v := range seq {
		l = append(l, k, v)
	}
	return l
}

func stackOf[T any](t *testing.T, most int, things ...T) *bag.Stack[T] {
	t.Helper()
	s, e := bag.NewStack[T](most)
	if s == nil || e != api.OK {
		t.Fatalf("NewStack(%d): %v, %d", most, s, e)
	}
	for _, x := range things {
		want(t, "Push", s.Push(x), api.OK)
	}
	return s
}

func queueOf[T any](t *testing.T, most int, things ...T) *bag.Queue[T] {
	t.Helper()
	q, e := bag.NewQueue[T](most)
	if q == nil || e != api.OK {
		t.Fatalf("NewQueue(%d): %v, %d", most, q, e)
	}
	for _, x := range things {
		want(t, "Put", q.Put(x), api.OK)
	}
	return q
}

// tableOf lays each key's number, from 1 on, at it.
func tableOf(t *testing.T, keys ...string) *bag.TextTable {
	t.Helper()
	w := bag.NewTextTable()
	if w == nil {
		t.Fatal("NewTextTable: nil")
	}
	for i, k := range keys {
		w.Set(k, i+1)
	}
	return w
}

// dice: numbers that look like chance and are the same at every run.
type dice uint64

func (d *dice) below(n int) int {
	*d = *d*6364136223846793005 + 1442695040888963407
	return int(uint64(*d) >> 33 % uint64(n))
}
