package bag

import (
	"iter"
	"slices"

	"midden/api"
)

// Stack: what was pushed last comes out first.
type Stack[T any] struct {
	things []T // the topmost one is the last
	most   int
}

// NewStack makes a stack that holds at most most; 0: any number.
func NewStack[T any](most int) (*Stack[T], api.Errno) {
	if most < 0 {
		return nil, api.ErrBagMost
	}
	return &Stack[T]{most: most}, api.OK
}

// Push lays x on top.
func (s *Stack[T]) Push(x T) api.Errno {
	if full(s.Len(), s.most) {
		return api.ErrBagFull
	}
	s.things = append(s.things, x)
	return api.OK
}

// Pop takes the topmost one.
func (s *Stack[T]) Pop() (T, bool) {
	var none T
	if s.Len() == 0 {
		return none, false
	}
	last := s.Len() - 1
	x := s.things[last]
	s.things[last] = none // the spare room must not hold on to what was taken
	s.things = s.things[:last]
	return x, true
}

// Len tells how many there are.
func (s *Stack[T]) Len() int { return len(s.things) }

// All gives them, from the top.
func (s *Stack[T]) All() iter.Seq[T] { return frozen(s.downward) }

func (s *Stack[T]) downward() iter.Seq[T] {
	return func(yield func(T) bool) {
		for _, x := range slices.Backward(s.things) {
			if !yield(x) {
				return
			}
		}
	}
}
