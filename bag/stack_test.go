package bag_test

import (
	"math"
	"slices"
	"testing"

	"midden/api"
	"midden/bag"
)

func TestNewStack(t *testing.T) {
	for _, most := range []int{-1, -2, math.MinInt} {
		if s, e := bag.NewStack[string](most); s != nil || e != api.ErrBagMost {
			t.Errorf("P1.1: NewStack(%d): %v, %d", most, s, e)
		}
		if s, e := bag.NewIntStack(most); s != nil || e != api.ErrBagMost {
			t.Errorf("P1.1: NewIntStack(%d): %v, %d", most, s, e)
		}
	}
	for _, most := range []int{0, 1, 2, math.MaxInt} {
		s := stackOf[string](t, most)
		want(t, "P1.1: Len", s.Len(), 0)
		want(t, "P1.1: All", list(s.All()), "[]")
		want(t, "P1.1: Push", s.Push("a"), api.OK)
	}
}

// TestNewIntStack: it is a stack of ints, with its bound.
func TestNewIntStack(t *testing.T) {
	var s *bag.Stack[int]
	s, e := bag.NewIntStack(1)
	if s == nil || e != api.OK {
		t.Fatalf("P1.1: %v, %d", s, e)
	}
	want(t, "P1.1", []api.Errno{s.Push(1), s.Push(2)}, []api.Errno{api.OK, api.ErrBagFull})
}

// TestStackExample: the chapter's example 1.
func TestStackExample(t *testing.T) {
	s, e := bag.NewIntStack(2)
	if s == nil || e != api.OK {
		t.Fatalf("P1.1: %v, %d", s, e)
	}
	want(t, "P1.2", []api.Errno{s.Push(5), s.Push(7), s.Push(9)}, []api.Errno{0, 0, 11})
	want(t, "P1.5", list(s.All()), "[7 5]")
	for _, x := range []int{7, 5} {
		if y, ok := s.Pop(); y != x || !ok {
			t.Errorf("P1.2: Pop: %d, %v, want %d", y, ok, x)
		}
	}
	if y, ok := s.Pop(); y != 0 || ok {
		t.Errorf("P1.2: Pop of nothing: %d, %v", y, ok)
	}
}

// TestStackFull: a refused thing leaves no trace, and room that is made is room again.
func TestStackFull(t *testing.T) {
	s := stackOf(t, 3, "a", "b", "c")
	for range 3 {
		want(t, "P1.2: Push", s.Push("d"), api.ErrBagFull)
	}
	want(t, "P1.2: All", list(s.All()), "[c b a]")
	want(t, "P1.2: Len", s.Len(), 3)
	s.Pop()
	want(t, "P1.2: Push", []api.Errno{s.Push("e"), s.Push("f")}, []api.Errno{api.OK, api.ErrBagFull})
	want(t, "P1.2: All", list(s.All()), "[e b a]")
}

func TestStackWithoutBound(t *testing.T) {
	const many = 100000
	s := stackOf[int](t, 0)
	for i := range many {
		if e := s.Push(i); e != api.OK {
			t.Fatalf("P1.1: Push of the %dth: %d", i, e)
		}
	}
	want(t, "P1.5: Len", s.Len(), many)
	for i := range many {
		if x, ok := s.Pop(); x != many-1-i || !ok {
			t.Fatalf("P1.6: Pop: %d, %v, want %d", x, ok, many-1-i)
		}
	}
}

func TestStackPopOfNothing(t *testing.T) {
	s := stackOf[*int](t, 0)
	one := 1
	for range 3 {
		if x, ok := s.Pop(); x != nil || ok {
			t.Errorf("P1.2: %v, %v", x, ok)
		}
		s.Push(&one)
		if x, ok := s.Pop(); x != &one || !ok {
			t.Errorf("P1.2: %v, %v", x, ok)
		}
	}
	want(t, "P1.5: Len", s.Len(), 0)
}

// TestStackZeroThing: the zero value is a thing like any other.
func TestStackZeroThing(t *testing.T) {
	s := stackOf(t, 0, "")
	if x, ok := s.Pop(); x != "" || !ok {
		t.Errorf("P1.2: %q, %v", x, ok)
	}
}

// TestStackCarries: a list that is a thing is the one that was handed in.
func TestStackCarries(t *testing.T) {
	things := []int{1, 2}
	s := stackOf(t, 0, things)
	things[0] = 7
	for x := range s.All() {
		want(t, "All", x, "[7 2]")
	}
	x, _ := s.Pop()
	x[1] = 8
	want(t, "Pop", things, "[7 8]")
}

func TestStackAllEarly(t *testing.T) {
	s := stackOf(t, 0, 1, 2, 3)
	for stop := 1; stop <= 4; stop++ {
		var given []int
		s.All()(func(x int) bool {
			given = append(given, x)
			return len(given) < stop
		})
		want(t, "P1.5", given, []int{3, 2, 1}[:min(stop, 3)])
	}
	want(t, "P1.5: Len", s.Len(), 3)
}

// TestStackAllFrozen: a walk gives what was there when it began, the next one what is there then.
func TestStackAllFrozen(t *testing.T) {
	s := stackOf[int](t, 0)
	seq := s.All()
	want(t, "P1.5", list(seq), "[]")
	for i := range 4 {
		s.Push(i)
	}
	var given []int
	for x := range seq {
		given = append(given, x)
		s.Pop()
		s.Pop()
		s.Push(x + 10)
	}
	want(t, "P1.5", given, "[3 2 1 0]")
	want(t, "P1.5", list(seq), "[10]")
	for s.Len() > 0 {
		s.Pop()
	}
	want(t, "P1.5", list(seq), "[]")
}

func TestStackAllWithinItself(t *testing.T) {
	s := stackOf(t, 0, 1, 2)
	seq := s.All()
	var given []int
	for x := range seq {
		s.Push(9)
		for y := range seq {
			given = append(given, 10*x+y)
		}
		s.Pop()
	}
	want(t, "P1.5", given, "[29 22 21 19 12 11]")
}

// TestStacksApart: no container touches another one.
func TestStacksApart(t *testing.T) {
	a, b := stackOf(t, 0, 1, 2, 3), stackOf[int](t, 2)
	for x := range a.All() {
		b.Push(x)
	}
	b.Pop()
	b.Push(8)
	want(t, "P1.6", list(a.All()), "[3 2 1]")
	want(t, "P1.6", list(b.All()), "[8 3]")
	a.Pop()
	a.Push(9)
	want(t, "P1.6", list(a.All()), "[9 2 1]")
	want(t, "P1.6", list(b.All()), "[8 3]")
}

// TestStackModel holds a stack against a plain list.
func TestStackModel(t *testing.T) {
	for most := range 6 {
		s := stackOf[int](t, most)
		var model []int
		d := dice(most + 1)
		for i := range 2000 {
			if d.below(2) == 0 {
				fits := most == 0 || len(model) < most
				if e := s.Push(i); (e == api.OK) != fits || !fits && e != api.ErrBagFull {
					t.Fatalf("P1.2: Push: %d at %d of %d", e, len(model), most)
				}
				if fits {
					model = append(model, i)
				}
			} else {
				x, ok := s.Pop()
				if ok != (len(model) > 0) || ok && x != model[len(model)-1] || !ok && x != 0 {
					t.Fatalf("P1.6: Pop: %d, %v of %v", x, ok, model)
				}
				model = model[:max(len(model)-1, 0)]
			}
			given := list(s.All())
			slices.Reverse(given)
			if !slices.Equal(given, model) || s.Len() != len(model) {
				t.Fatalf("P1.6: %v, %d, want %v", given, s.Len(), model)
			}
		}
	}
}
