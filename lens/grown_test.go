package lens_test

import (
	"fmt"
	"slices"
	"testing"

	"midden/api"
	"midden/lens"
)

// sited tells a graph of objects of these sites, so many raw fields each as its place tells.
func sited(sites ...int) api.Graph {
	var g api.Graph
	for i, site := range sites {
		g.Objects = append(g.Objects, api.Object{Kind: api.Plain, Site: site, Raws: make([]uint64, i)})
	}
	return g
}

// grown tells what Grown answers: site, objects, words.
func grown(before, after api.Graph) [][3]int {
	var list [][3]int
	for _, is := range lens.Grown(before, after) {
		list = append(list, [3]int{is.Site, is.Objects, is.Words})
	}
	return list
}

func TestGrown(t *testing.T) {
	for _, x := range []struct {
		what          string
		before, after api.Graph
		is            [][3]int
	}{
		{"nothing to nothing", api.Graph{}, api.Graph{}, nil},
		{"nothing to some", api.Graph{}, sited(7, 3, 7), [][3]int{{3, 1, 3}, {7, 2, 6}}},
		{"some to nothing", sited(7, 3, 7), api.Graph{}, [][3]int{{3, -1, -3}, {7, -2, -6}}},
		{"the same", sited(7, 3, 7), sited(7, 3, 7), nil},
		{"others of the same sites and words", sited(7, 3), sited(3, 7), [][3]int{{3, 0, -1}, {7, 0, 1}}},
		{"sites that one alone has", sited(1, 2, 2), sited(5, 2, 2), [][3]int{{1, -1, -2}, {5, 1, 2}}},
		{"as many words of more objects", sited(9, 9, 4), sited(4, 4), [][3]int{{4, 1, 1}, {9, -2, -5}}},
		{"more objects, as many words", sited(0, 0, 255), sited(255, 255, 0), [][3]int{{0, -1, -1}, {255, 1, 1}}},
		{"the first and the last site", api.Graph{}, sited(255, 0), [][3]int{{0, 1, 3}, {255, 1, 2}}},
	} {
		want(t, "P17.6: "+x.what, grown(x.before, x.after), x.is)
	}
	one := api.Graph{Objects: []api.Object{{Site: 4, Raws: make([]uint64, 2)}}}
	two := api.Graph{Objects: []api.Object{{Site: 4}, {Site: 4}}}
	want(t, "P17.6: more objects, as many words", grown(one, two), [][3]int{{4, 1, 0}})
	fields := api.Graph{Objects: []api.Object{{Site: 4, Ptrs: make([]int, 2)}}}
	want(t, "P17.6: pointer fields and raw ones count alike", grown(one, fields), [][3]int{})
	fields.Objects[0].Kind = api.Weak
	want(t, "P17.6: the kind doesn't count", grown(one, fields), [][3]int{})
}

// All objects count, in Reach or not, known or not.
func TestGrownCountsAll(t *testing.T) {
	want(t, "P17.6: all that stands in Objects", grown(graphOf([]int{0}), mixed()), [][3]int{{0, 4, 14}, {1, 1, 4}, {3, 1, 2}, {9, 1, 4}, {128, 1, 5}, {255, 1, 7}})
	g := graphOf([]int{1}, plain(2), plain())
	other := graphOf([]int{0}, plain(2), plain())
	want(t, "P17.6: who holds them doesn't count", grown(g, other), [][3]int{})
}

// Graphs that may not be are taken, too.
func TestGrownTakesAllGraphs(t *testing.T) {
	g := api.Graph{Objects: []api.Object{{Site: least, Kind: -7, Ptrs: []int{99, -3}}, {Site: greatest, Kind: 88}, {Site: -1}, {Site: 256}, {Site: -1, Kind: api.Ephemeron}}}
	want(t, "P17.6: any sites", grown(api.Graph{}, g), [][3]int{{least, 1, 4}, {-1, 2, 4}, {256, 1, 2}, {greatest, 1, 2}})
	want(t, "P17.6: any sites", grown(g, api.Graph{}), [][3]int{{least, -1, -4}, {-1, -2, -4}, {256, -1, -2}, {greatest, -1, -2}})
	for _, x := range wrong() {
		n := 0
		for _, is := range lens.Grown(api.Graph{}, x.g) {
			n += is.Objects
		}
		want(t, "P17.6: "+x.what, n, len(x.g.Objects))
	}
}

// counts tells a graph's objects and words by site, as P17.6 says it, site by site.
func counts(g api.Graph, site int) (objects, words int) {
	for _, o := range g.Objects {
		if o.Site == site {
			objects++
			words += 2 + len(o.Ptrs) + len(o.Raws)
		}
	}
	return objects, words
}

func TestGrownAgainstTheModel(t *testing.T) {
	for seed := range 300 {
		d := dice(20000 + seed)
		before, after := d.graph(1+d.below(30), 3, kinds[3]...), d.graph(1+d.below(30), 3, kinds[3]...)
		var is []api.Growth
		for site := -1; site < 6; site++ {
			o, w := counts(before, site)
			p, x := counts(after, site)
			if p != o || x != w {
				is = append(is, api.Growth{Site: site, Objects: p - o, Words: x - w})
			}
		}
		want(t, "P17.6", lens.Grown(before, after), is)
		want(t, "P17.6: the other way round", backward(lens.Grown(after, before)), is)
	}
}

func backward(list []api.Growth) []api.Growth {
	list = slices.Clone(list)
	for i, is := range list {
		list[i] = api.Growth{Site: is.Site, Objects: -is.Objects, Words: -is.Words}
	}
	return list
}

// Many sites, as no graph that may be has them.
func TestGrownOfManySites(t *testing.T) {
	const n = 100000
	var g api.Graph
	for i := range n {
		g.Objects = append(g.Objects, api.Object{Site: -i})
	}
	list := lens.Grown(api.Graph{}, g)
	want(t, "P17.6: how many sites", len(list), n)
	want(t, "P17.6: the first and the last", fmt.Sprint(list[0], list[n-1]), fmt.Sprint(api.Growth{Site: 1 - n, Objects: 1, Words: 2}, api.Growth{Objects: 1, Words: 2}))
}
