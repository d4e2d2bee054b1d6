package bag

import (
	"iter"
	"slices"

	"midden/api"
)

// Queue: what was put first comes out first.
type Queue[T any] struct {
	things []T
	first  int // those ahead of it have been taken
	most   int
}

// NewQueue makes a queue that holds at most most; 0: any number.
func NewQueue[T any](most int) (*Queue[T], api.Errno) {
	if most < 0 {
		return nil, api.ErrBagMost
	}
	return &Queue[T]{most: most}, api.OK
}

// Put lays x at the end.
func (q *Queue[T]) Put(x T) api.Errno {
	if full(q.Len(), q.most) {
		return api.ErrBagFull
	}
	q.things = append(q.things, x)
	return api.OK
}

// Take takes the first one.
func (q *Queue[T]) Take() (T, bool) {
	var none T
	if q.Len() == 0 {
		return none, false
	}
	x := q.things[q.first]
	q.things[q.first] = none // what was taken must not be held on to
	q.first++
	q.closeUp()
	return x, true
}

// closeUp keeps a queue that is put into and taken from for ever from growing for ever.
// It waits until half is empty, so that a Take moves at most one thing on average.
func (q *Queue[T]) closeUp() {
	if q.first >= q.Len() {
		q.things = slices.Delete(q.things, 0, q.first)
		q.first = 0
	}
}

// Map lays f of each in its place.
func (q *Queue[T]) Map(f func(T) T) {
	held := q.held()
	for i, x := range held {
		held[i] = f(x)
	}
}

// Len tells how many there are.
func (q *Queue[T]) Len() int { return len(q.held()) }

// All gives them, from the first.
func (q *Queue[T]) All() iter.Seq[T] { return frozen(q.onward) }

func (q *Queue[T]) onward() iter.Seq[T] { return slices.Values(q.held()) }

// held: those that haven't been taken, in their place.
func (q *Queue[T]) held() []T { return q.things[q.first:] }
