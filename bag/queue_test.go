package bag_test

import (
	"math"
	"slices"
	"testing"

	"midden/api"
	"midden/bag"
)

func TestNewQueue(t *testing.T) {
	for _, most := range []int{-1, -2, math.MinInt} {
		if q, e := bag.NewQueue[float64](most); q != nil || e != api.ErrBagMost {
			t.Errorf("P1.1: NewQueue(%d): %v, %d", most, q, e)
		}
		if q, e := bag.NewIntQueue(most); q != nil || e != api.ErrBagMost {
			t.Errorf("P1.1: NewIntQueue(%d): %v, %d", most, q, e)
		}
		if q, e := bag.NewTextQueue(most); q != nil || e != api.ErrBagMost {
			t.Errorf("P1.1: NewTextQueue(%d): %v, %d", most, q, e)
		}
	}
	for _, most := range []int{0, 1, 2, math.MaxInt} {
		q := queueOf[string](t, most)
		want(t, "P1.1: Len", q.Len(), 0)
		want(t, "P1.1: All", list(q.All()), "[]")
		want(t, "P1.1: Put", q.Put("a"), api.OK)
	}
}

// TestNewIntQueue: those for one type are queues of that type, with their bounds.
func TestNewIntQueue(t *testing.T) {
	var n *bag.Queue[int]
	n, e := bag.NewIntQueue(1)
	if n == nil || e != api.OK {
		t.Fatalf("P1.1: %v, %d", n, e)
	}
	want(t, "P1.1", []api.Errno{n.Put(1), n.Put(2)}, []api.Errno{api.OK, api.ErrBagFull})
	var w *bag.Queue[string]
	w, e = bag.NewTextQueue(1)
	if w == nil || e != api.OK {
		t.Fatalf("P1.1: %v, %d", w, e)
	}
	want(t, "P1.1", []api.Errno{w.Put("a"), w.Put("b")}, []api.Errno{api.OK, api.ErrBagFull})
}

// TestQueueExample: the chapter's example 2.
func TestQueueExample(t *testing.T) {
	q, e := bag.NewIntQueue(0)
	if q == nil || e != api.OK {
		t.Fatalf("P1.1: %v, %d", q, e)
	}
	want(t, "P1.2", []api.Errno{q.Put(1), q.Put(2), q.Put(3)}, []api.Errno{0, 0, 0})
	if x, ok := q.Take(); x != 1 || !ok {
		t.Errorf("P1.2: Take: %d, %v", x, ok)
	}
	q.Map(func(x int) int { return 2 * x })
	want(t, "P1.3", list(q.All()), "[4 6]")
	if q, e := bag.NewIntQueue(-1); q != nil || e != 10 {
		t.Errorf("P1.1: %v, %d", q, e)
	}
}

// TestQueueFull: a refused thing leaves no trace, and room that is made is room again.
func TestQueueFull(t *testing.T) {
	q := queueOf(t, 3, "a", "b", "c")
	for range 3 {
		want(t, "P1.2: Put", q.Put("d"), api.ErrBagFull)
	}
	want(t, "P1.2: All", list(q.All()), "[a b c]")
	want(t, "P1.2: Len", q.Len(), 3)
	q.Take()
	want(t, "P1.2: Put", []api.Errno{q.Put("e"), q.Put("f")}, []api.Errno{api.OK, api.ErrBagFull})
	want(t, "P1.2: All", list(q.All()), "[b c e]")
}

func TestQueueWithoutBound(t *testing.T) {
	const many = 100000
	q := queueOf[int](t, 0)
	for i := range many {
		if e := q.Put(i); e != api.OK {
			t.Fatalf("P1.1: Put of the %dth: %d", i, e)
		}
	}
	want(t, "P1.5: Len", q.Len(), many)
	for i := range many {
		if x, ok := q.Take(); x != i || !ok {
			t.Fatalf("P1.6: Take: %d, %v, want %d", x, ok, i)
		}
	}
}

func TestQueueTakeOfNothing(t *testing.T) {
	q := queueOf[*int](t, 0)
	one := 1
	for range 3 {
		if x, ok := q.Take(); x != nil || ok {
			t.Errorf("P1.2: %v, %v", x, ok)
		}
		q.Put(&one)
		if x, ok := q.Take(); x != &one || !ok {
			t.Errorf("P1.2: %v, %v", x, ok)
		}
	}
	want(t, "P1.5: Len", q.Len(), 0)
}

// TestQueueCarries: a list that is a thing is the one that was handed in.
func TestQueueCarries(t *testing.T) {
	things := []int{1, 2}
	q := queueOf(t, 0, things)
	things[0] = 7
	for x := range q.All() {
		want(t, "All", x, "[7 2]")
	}
	x, _ := q.Take()
	x[1] = 8
	want(t, "Take", things, "[7 8]")
}

// TestQueueMap: each thing that is there once, from the first on, those that were taken not.
func TestQueueMap(t *testing.T) {
	q := queueOf(t, 5, 1, 2, 3, 4, 5)
	q.Take()
	q.Take()
	q.Put(6)
	var asked []int
	q.Map(func(x int) int {
		asked = append(asked, x)
		return 100*len(asked) + x
	})
	want(t, "P1.3: asked", asked, "[3 4 5 6]")
	want(t, "P1.3: All", list(q.All()), "[103 204 305 406]")
	want(t, "P1.3: Len", q.Len(), 4)
	want(t, "P1.3: Put", []api.Errno{q.Put(7), q.Put(8)}, []api.Errno{api.OK, api.ErrBagFull})
	if x, ok := q.Take(); x != 103 || !ok {
		t.Errorf("P1.3: Take: %d, %v", x, ok)
	}
}

func TestQueueMapOfNothing(t *testing.T) {
	q := queueOf(t, 0, 1)
	q.Take()
	q.Map(func(x int) int {
		t.Errorf("P1.3: asked for %d", x)
		return x
	})
	want(t, "P1.3: Len", q.Len(), 0)
}

func TestQueueAllEarly(t *testing.T) {
	q := queueOf(t, 0, 0, 1, 2, 3)
	q.Take()
	for stop := 1; stop <= 4; stop++ {
		var given []int
		q.All()(func(x int) bool {
			given = append(given, x)
			return len(given) < stop
		})
		want(t, "P1.5", given, []int{1, 2, 3}[:min(stop, 3)])
	}
	want(t, "P1.5: Len", q.Len(), 3)
}

// TestQueueAllFrozen: a walk gives what was there when it began, the next one what is there then.
func TestQueueAllFrozen(t *testing.T) {
	q := queueOf[int](t, 0)
	seq := q.All()
	want(t, "P1.5", list(seq), "[]")
	for i := range 4 {
		q.Put(i)
	}
	var given []int
	for x := range seq {
		given = append(given, x)
		q.Map(func(x int) int { return x + 100 })
		q.Take()
		q.Take()
		q.Put(x)
	}
	want(t, "P1.5", given, "[0 1 2 3]")
	want(t, "P1.5", list(seq), "[3]")
	for q.Len() > 0 {
		q.Take()
	}
	want(t, "P1.5", list(seq), "[]")
}

func TestQueueAllWithinItself(t *testing.T) {
	q := queueOf(t, 0, 1, 2)
	seq := q.All()
	var given []int
	for x := range seq {
		q.Put(10 * x)
		for y := range seq {
			given = append(given, 100*x+y)
		}
	}
	want(t, "P1.5", given, "[101 102 110 201 202 210 220]")
}

// TestQueuesApart: no container touches another one.
func TestQueuesApart(t *testing.T) {
	a, b := queueOf(t, 0, 1, 2, 3), queueOf[int](t, 2)
	for x := range a.All() {
		b.Put(x)
	}
	b.Map(func(x int) int { return -x })
	b.Take()
	b.Put(8)
	want(t, "P1.6", list(a.All()), "[1 2 3]")
	want(t, "P1.6", list(b.All()), "[-2 8]")
	a.Take()
	a.Put(9)
	want(t, "P1.6", list(a.All()), "[2 3 9]")
	want(t, "P1.6", list(b.All()), "[-2 8]")
}

// TestQueueModel holds a queue against a plain list.
func TestQueueModel(t *testing.T) {
	for most := range 6 {
		q := queueOf[int](t, most)
		var model []int
		d := dice(most + 1)
		for i := range 2000 {
			switch d.below(5) {
			case 0, 1:
				fits := most == 0 || len(model) < most
				if e := q.Put(i); (e == api.OK) != fits || !fits && e != api.ErrBagFull {
					t.Fatalf("P1.2: Put: %d at %d of %d", e, len(model), most)
				}
				if fits {
					model = append(model, i)
				}
			case 2, 3:
				x, ok := q.Take()
				if ok != (len(model) > 0) || ok && x != model[0] || !ok && x != 0 {
					t.Fatalf("P1.6: Take: %d, %v of %v", x, ok, model)
				}
				model = model[min(len(model), 1):]
			case 4:
				q.Map(func(x int) int { return x ^ i })
				for j := range model {
					model[j] ^= i
				}
			}
			if given := list(q.All()); !slices.Equal(given, model) || q.Len() != len(model) {
				t.Fatalf("P1.6: %v, %d, want %v", given, q.Len(), model)
			}
		}
	}
}
