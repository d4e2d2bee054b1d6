package lens_test

import (
	"testing"

	"midden/api"
)

func TestDominatorsOfShapes(t *testing.T) {
	for _, x := range []struct {
		what string
		g    api.Graph
		is   []int
	}{
		{"no objects", graphOf([]int{0}), nil},
		{"a root", graphOf([]int{1}, plain()), []int{0}},
		{"a root that another one holds", graphOf([]int{1, 2}, plain(2), plain()), []int{0, 0}},
		{"itself", graphOf([]int{1}, plain(1)), []int{0}},
		{"a list", graphOf([]int{4}, plain(), plain(1), plain(2), plain(3)), []int{2, 3, 4, 0}},
		{"a list with pointers back", graphOf([]int{1}, plain(2), plain(1, 3), plain(2, 4), plain(3, 1)), []int{0, 1, 2, 3}},
		{"two ways of unlike length", graphOf([]int{1}, plain(2, 4), plain(3), plain(4), plain(5), plain()), []int{0, 1, 2, 1, 4}},
		{"ways that cross", graphOf([]int{1}, plain(2, 3), plain(4, 5), plain(4, 5), plain(6), plain(6), plain()), []int{0, 1, 1, 1, 1, 1}},
		{"a ring with two entries", graphOf([]int{1}, plain(2, 3), plain(3), plain(2)), []int{0, 1, 1}},
		{"a ring behind one entry", graphOf([]int{1}, plain(2), plain(3), plain(4, 2), plain(2)), []int{0, 1, 2, 3}},
		{"a way by which another one's holder is passed by", graphOf([]int{1}, plain(2, 6), plain(3), plain(4), plain(5), plain(), plain(4)), []int{0, 1, 2, 1, 4, 1}},
		{"the same field twice", graphOf([]int{1, 1}, plain(2, 2), plain()), []int{0, 1}},
		{"a weak field passes nobody by", graphOf([]int{1, 3}, plain(2), plain(), object(api.Weak, 2)), []int{0, 1, 0}},
		{"a strong one of a weak object does", graphOf([]int{1, 3}, plain(2), plain(), object(api.Weak, 0, 2)), []int{0, 0, 0}},
		{"a value passes nobody by", graphOf([]int{1, 3}, plain(2), plain(), object(api.Ephemeron, 1, 2)), []int{0, 1, 0}},
		{"what is out of Reach passes nobody by", graphOf([]int{1}, plain(2), plain(), object(api.Final, 2)), []int{0, 1, -1}},
		{"a final object in Reach does", graphOf([]int{1, 3}, plain(2), plain(), object(api.Final, 2)), []int{0, 0, 0}},
	} {
		sound(t, x.g)
		want(t, "P17.4: "+x.what, dominates(t, x.g), x.is)
		want(t, "P17.4: the model: "+x.what, dominators(x.g), x.is)
	}
}

// The graph by which Lengauer and Tarjan show their method: R, A .. L are 1 to 13.
func TestDominatorsOfAKnownGraph(t *testing.T) {
	g := graphOf([]int{1},
		plain(2, 3, 4), // R: A B C
		plain(5),       // A: D
		plain(2, 5, 6), // B: A D E
		plain(7, 8),    // C: F G
		plain(13),      // D: L
		plain(9),       // E: H
		plain(10),      // F: I
		plain(10, 11),  // G: I J
		plain(6, 12),   // H: E K
		plain(12),      // I: K
		plain(10),      // J: I
		plain(10, 1),   // K: I R
		plain(9))       // L: H
	sound(t, g)
	want(t, "P17.4: a known graph", dominates(t, g), []int{0, 1, 1, 1, 1, 1, 4, 4, 1, 1, 8, 1, 5})
}
