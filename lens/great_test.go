package lens_test

import (
	"slices"
	"testing"

	"midden/api"
)

// n objects are as many as a heap may hold, and more.
const n = 150000

// rising tells the numbers from one to another.
func rising(first, last int) []int {
	var list []int
	for i := first; i <= last; i++ {
		list = append(list, i)
	}
	return list
}

func same(t *testing.T, what string, got, want []int) {
	t.Helper()
	if slices.Equal(got, want) {
		return
	}
	for i := range want {
		if i >= len(got) || got[i] != want[i] {
			t.Errorf("%s: %d answers, want %d; the first other one at %d", what, len(got), len(want), i)
			return
		}
	}
	t.Errorf("%s: %d answers, want %d", what, len(got), len(want))
}

// A long list, each of which holds the next one and the one ahead.
func TestLongList(t *testing.T) {
	var objects []api.Object
	var words []int
	for i := 1; i <= n; i++ {
		objects = append(objects, plain((i+1)%(n+1), i-1))
		words = append(words, 4*(n+1-i))
	}
	g := graphOf([]int{1}, objects...)
	sound(t, g)
	same(t, "P17.4: a long list", dominates(t, g), rising(0, n-1))
	same(t, "P17.5: a long list", leads(t, g, n), rising(1, n))
	same(t, "P17.3: a long list", retains(t, g), words)
	g.Handles = []int{n}
	same(t, "P17.4: a list held at both ends", dominates(t, g), make([]int, n))
	same(t, "P17.5: a list held at both ends", leads(t, g, n-2), []int{n, n - 1, n - 2})
	same(t, "P17.3: a list held at both ends", retains(t, g), slices.Repeat([]int{4}, n))
}

// A tree by twos, and all of whose leaves hold the last object.
func TestGreatTree(t *testing.T) {
	var objects []api.Object
	var above []int
	words := make([]int, n)
	for i := 1; i < n; i++ {
		o := plain(2*i, 2*i+1)
		if 2*i+1 >= n {
			o = plain(n)
		}
		objects = append(objects, o)
		above = append(above, i/2)
	}
	objects = append(objects, plain())
	above = append(above, 1)
	words[n-1] = 2
	for i := n - 1; i >= 1; i-- {
		words[i-1] += 2 + len(objects[i-1].Ptrs)
		if i > 1 {
			words[i/2-1] += words[i-1]
		}
	}
	words[0] += 2
	g := graphOf([]int{1}, objects...)
	sound(t, g)
	same(t, "P17.4: a great tree", dominates(t, g), above)
	same(t, "P17.3: a great tree", retains(t, g), words)
	var path []int
	for i := 1 << 16; i > 0; i /= 2 {
		path = append(path, i)
	}
	slices.Reverse(path)
	same(t, "P17.5: a great tree", leads(t, g, 1<<16), path)
}

// A long list with many ways past its middle: each of the last ones is held by its end and by its beginning.
func TestWaysPastALongList(t *testing.T) {
	const long = n / 2
	const wide = 4000
	var objects []api.Object
	for i := 1; i < long; i++ {
		objects = append(objects, plain(i+1))
	}
	last := rising(long+1, long+wide)
	objects[0].Ptrs = append(objects[0].Ptrs, last...)
	objects = append(objects, object(api.Plain, last...))
	above := rising(0, long-1)
	for range wide {
		objects = append(objects, plain())
		above = append(above, 1)
	}
	g := graphOf([]int{1}, objects...)
	sound(t, g)
	same(t, "P17.4: ways past a long list", dominates(t, g), above)
	same(t, "P17.5: ways past a long list", leads(t, g, long+7), []int{1, long + 7})
}

// Few ephemerons among many objects: what they hold goes with their keys, and all else goes as it is dominated.
func TestFewEphemeronsAmongMany(t *testing.T) {
	const e, key, value = n - 2, n - 1, n
	var objects []api.Object
	words := make([]int, n)
	for i := 1; i < e; i++ {
		o := plain(0, 0)
		if i < e-1 {
			o.Ptrs[0] = i + 1
		}
		objects = append(objects, o)
		words[i-1] = 4 * (e - i)
	}
	objects = append(objects, object(api.Ephemeron, key, value), plain(), plain(100))
	words[e-1], words[key-1], words[value-1] = 4+3, 2+3, 3
	for i := range 99 {
		words[i] = 4 * (99 - i)
	}
	g := graphOf([]int{1, e, key}, objects...)
	sound(t, g)
	same(t, "P17.3: an ephemeron among many", retains(t, g), words)
	// Where the key hangs on the list's beginning, the value goes with that.
	g = graphOf([]int{1, e}, objects...)
	g.Objects[1].Ptrs[1] = key
	sound(t, g)
	words[0], words[1] = 4*(e-1)+2+3, 4*(e-2)+2+3
	same(t, "P17.3: an ephemeron whose key hangs on a list", retains(t, g), words)
}
