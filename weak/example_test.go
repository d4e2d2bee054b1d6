package weak_test

import (
	"testing"

	"midden/api"
)

// tied: the chapter's five objects, in its order.
func tied(t *testing.T) (x *memory, e2, e1, k1, k2, v int) {
	t.Helper()
	x = made(t, small())
	e2 = x.lay(t, api.SpaceEden, api.Ephemeron, 0, 0)
	e1 = x.lay(t, api.SpaceEden, api.Ephemeron, 0, 0)
	k1 = x.lay(t, api.SpaceEden, api.Plain)
	k2 = x.lay(t, api.SpaceEden, api.Plain)
	v = x.lay(t, api.SpaceEden, api.Plain)
	x.point(t, e2, 0, k2)
	x.point(t, e2, 1, v)
	x.point(t, e1, 0, k1)
	x.point(t, e1, 1, k2)
	return x, e2, e1, k1, k2, v
}

func TestExample1(t *testing.T) {
	for workers := 1; workers <= api.MaxWorkers; workers++ {
		x, e2, e1, k1, k2, v := tied(t)
		x.reach(t, workers, e1, e2, k1)
		x.marked(t, "P10.3", e1, e2, k1, k2, v)
		x.settle(t, workers, nil, 0)
		x.fields(t, "P10.4", e1, k1, k2)
		x.fields(t, "P10.4", e2, k2, v)
		x.m.Clear()
		x.reach(t, workers, e1, e2)
		x.marked(t, "P10.3", e1, e2)
		x.settle(t, workers, nil, 4)
		x.fields(t, "P10.4", e1, 0, 0)
		x.fields(t, "P10.4", e2, 0, 0)
		x.marked(t, "P10.4", e1, e2)
	}
}

func TestExample2(t *testing.T) {
	for _, marked := range []bool{false, true} {
		x := made(t, small())
		v := x.lay(t, api.SpaceEden, api.Plain)
		e := x.lay(t, api.SpaceEden, api.Ephemeron, 0, v)
		x.mark(e)
		if marked {
			x.mark(v)
		}
		x.settle(t, 1, nil, 1)
		x.fields(t, "P10.4", e, 0, 0)
		want(t, "P10.4: is v marked", x.m.Has(v), marked)
	}
}

func TestExample3(t *testing.T) {
	for workers := 1; workers <= api.MaxWorkers; workers++ {
		x := made(t, small())
		b := x.lay(t, api.SpaceEden, api.Final)
		a := x.lay(t, api.SpaceEden, api.Final, b)
		x.add(t, a, b)
		x.settle(t, workers, []int{a}, 0)
		x.list(t, "P10.4", b)
		want(t, "P10.4: kinds", []int{x.kind(a), x.kind(b)}, []int{api.Plain, api.Final})
		x.marked(t, "P10.4", a, b)
		x = made(t, small())
		x.lay(t, api.SpaceEden, api.Final)
		x.lay(t, api.SpaceEden, api.Final, b)
		x.add(t, b, a)
		x.settle(t, workers, []int{b, a}, 0)
		x.list(t, "P10.4")
		want(t, "P10.4: kinds", []int{x.kind(a), x.kind(b)}, []int{api.Plain, api.Plain})
		x.marked(t, "P10.4", a, b)
	}
}

func TestExample4(t *testing.T) {
	x := made(t, small())
	b := x.lay(t, api.SpaceEden, api.Final)
	a := x.lay(t, api.SpaceEden, api.Final, b)
	w := x.lay(t, api.SpaceEden, api.Weak, a)
	x.add(t, a, b)
	x.reach(t, 1, w)
	x.marked(t, "P10.3", w)
	x.settle(t, 1, []int{a}, 0)
	x.fields(t, "P10.4", w, a)
}
