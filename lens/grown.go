package lens

import (
	"maps"
	"slices"

	"midden/api"
)

// Grown tells by site how one graph differs from another.
func Grown(before, after api.Graph) []api.Growth {
	bySite := map[int]api.Growth{}
	count(bySite, before, -1)
	count(bySite, after, 1)
	var told []api.Growth
	for _, site := range slices.Sorted(maps.Keys(bySite)) {
		if is := bySite[site]; is.Objects != 0 || is.Words != 0 {
			told = append(told, is)
		}
	}
	return told
}

// count counts a graph's objects and words in, each so many times.
func count(bySite map[int]api.Growth, g api.Graph, times int) {
	for _, o := range g.Objects {
		is := bySite[o.Site]
		bySite[o.Site] = api.Growth{Site: o.Site, Objects: is.Objects + times, Words: is.Words + times*size(o)}
	}
}
