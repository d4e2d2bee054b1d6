// Package bag: generic containers: see doc/01-bag.md.
package bag

import (
	"cmp"
	"iter"

	"midden/api"
)

// The containers of the types that other layers ask for.
type (
	IntStack  = Stack[int]
	IntQueue  = Queue[int]
	TextQueue = Queue[string]
	IntTable  = Table[int, uint64]
	TextTable = Table[string, int]
)

// NewIntStack to NewTextTable make them.
func NewIntStack(most int) (*IntStack, api.Errno) { return NewStack[int](most) }

func NewIntQueue(most int) (*IntQueue, api.Errno) { return NewQueue[int](most) }

func NewTextQueue(most int) (*TextQueue, api.Errno) { return NewQueue[string](most) }

func NewIntTable() *IntTable { return NewTable[int, uint64]() }

func NewTextTable() *TextTable { return NewTable[string, int]() }

// full tells whether a container that may hold most (0: any number) can take no more.
func full(held, most int) bool { return most > 0 && held >= most }

// place tells where k stands in rising keys, or where it would stand, and whether it is there.
// cmp.Compare alone decides: a NaN, which == finds nowhere, is a key like any other.
func place[K cmp.Ordered](keys []K, k K) (int, bool) {
	low, behind := 0, len(keys)
	for low < behind {
		middle := low + (behind-low)/2
		if cmp.Compare(keys[middle], k) < 0 {
			low = middle + 1
		} else {
			behind = middle
		}
	}
	return low, low < len(keys) && cmp.Compare(keys[low], k) == 0
}

// copied lays what seq gives in a list of its own: what is gone through must not
// change with the container that it was taken from.
func copied[T any](seq iter.Seq[T]) []T {
	var list []T
	for x := range seq {
		list = append(list, x)
	}
	return list
}

// frozen goes through what live gives at the moment when one begins.
func frozen[T any](live func() iter.Seq[T]) iter.Seq[T] {
	return func(yield func(T) bool) {
		for _, x := range copied(live()) {
			if !yield(x) {
				return
			}
		}
	}
}
