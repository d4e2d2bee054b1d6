package lens_test

import (
	"fmt"
	"testing"

	"midden/api"
	"midden/lens"
)

func TestPathOfShapes(t *testing.T) {
	for _, x := range []struct {
		what string
		g    api.Graph
		to   int
		is   []int
	}{
		{"to a root", graphOf([]int{1}, plain()), 1, []int{1}},
		{"to a root that another one holds", graphOf([]int{1, 2}, plain(2), plain()), 2, []int{2}},
		{"to one that holds itself", graphOf([]int{1}, plain(2), plain(2)), 2, []int{1, 2}},
		{"the shorter one, though it isn't the least", graphOf([]int{1, 4}, plain(2), plain(3), plain(), plain(3)), 3, []int{4, 3}},
		{"the least of two, whose holder's fields fall", graphOf([]int{1}, plain(3, 2), plain(4), plain(4), plain()), 4, []int{1, 2, 4}},
		{"the least of two, whose roots fall", graphOf([]int{3, 2}, plain(), plain(1), plain(1)), 1, []int{2, 1}},
		{"the least first number counts ahead of a lesser second one", graphOf([]int{1, 2}, plain(4), plain(3), plain(5), plain(5), plain()), 5, []int{1, 4, 5}},
		{"the least of three", graphOf([]int{5}, plain(), plain(1), plain(1), plain(1), plain(4, 3, 2)), 1, []int{5, 2, 1}},
		{"numbers that fall along it", graphOf([]int{4}, plain(), plain(1), plain(2), plain(3)), 1, []int{4, 3, 2, 1}},
		{"10 is above 9", graphOf([]int{10, 9}, plain(), plain(), plain(), plain(), plain(), plain(), plain(), plain(), plain(1, 2, 3, 4, 5, 6, 7, 8), plain(1)), 1, []int{9, 1}},
		{"no way past a weak field", graphOf([]int{1}, object(api.Weak, 2), plain()), 2, []int{}},
		{"no way past a key", graphOf([]int{1}, object(api.Ephemeron, 2, 0), plain()), 2, []int{}},
		{"no way past a value, though it is in Reach", graphOf([]int{1}, object(api.Ephemeron, 1, 2), plain()), 2, []int{}},
		{"the way around a value", graphOf([]int{1}, object(api.Ephemeron, 1, 3, 2), plain(3), plain()), 3, []int{1, 2, 3}},
		{"no way from the registry", graphOf([]int{0}, object(api.Final, 2), plain()), 2, []int{}},
	} {
		sound(t, x.g)
		want(t, "P17.5: "+x.what, leads(t, x.g, x.to), x.is)
		want(t, "P17.5: the model: "+x.what, path(x.g, x.to), x.is)
		want(t, "P17.5: the greater model: "+x.what, steered(ways(x.g), x.to), x.is)
	}
}

// Handles and the queue begin lists as slots do, and the least of all counts.
func TestPathFromAllRoots(t *testing.T) {
	g := graphOf([]int{4}, plain(), plain(1), plain(1), plain(1))
	g.Handles, g.Queue = []int{-1, 3}, []int{2}
	sound(t, g)
	want(t, "P17.5: from the queue", leads(t, g, 1), []int{2, 1})
	g.Handles, g.Queue = []int{-1, 2}, []int{3}
	want(t, "P17.5: from a handle", leads(t, g, 1), []int{2, 1})
	g.Slots, g.Handles, g.Queue = [][][]int{{{4}, {0, 2}}}, []int{3}, nil
	want(t, "P17.5: from a slot", leads(t, g, 1), []int{2, 1})
}

func TestPathToNoObject(t *testing.T) {
	for _, g := range []api.Graph{example(), held(), mixed(), graphOf([]int{0})} {
		sound(t, g)
		for _, to := range append([]int{len(g.Objects) + 1, len(g.Objects) + 2}, odd...) {
			list, e := lens.Path(g, to)
			want(t, fmt.Sprint("P17.5: Path to ", to), []any{list, e}, []any{[]int{}, api.ErrLensObject})
		}
	}
}
