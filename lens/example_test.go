package lens_test

import (
	"testing"

	"midden/api"
	"midden/lens"
)

func TestExample1(t *testing.T) {
	g := example()
	sound(t, g)
	want(t, "P17.4: the example", dominates(t, g), []int{0, 1, 1, 1, 3, -1})
	want(t, "P17.5: the example, to 4", leads(t, g, 4), []int{1, 2, 4})
	want(t, "P17.5: the example, to 5", leads(t, g, 5), []int{1, 3, 5})
	want(t, "P17.5: the example, to 6", leads(t, g, 6), []int{})
	list, e := lens.Path(g, 7)
	want(t, "P17.5: the example, to 7", []any{list, e}, []any{[]int{}, api.ErrLensObject})
}

func TestExample2(t *testing.T) {
	want(t, "P17.3: the example", retains(t, example()), []int{19, 5, 10, 2, 6, 2})
}

func TestExample3(t *testing.T) {
	g := held()
	sound(t, g)
	want(t, "P17.4: the example with a handle", dominates(t, g), []int{0, 1, 0, 0, 3, -1})
	want(t, "P17.5: the example with a handle", leads(t, g, 5), []int{3, 5})
	want(t, "P17.3: the example with a handle", retains(t, g)[0], 9)
}
