package census_test

import (
	"testing"

	"midden/api"
	"midden/census"
)

// TestNothing: of a heap without objects, with frames or without.
func TestNothing(t *testing.T) {
	h := made(t, small())
	for range 2 {
		want(t, "P15.1: four lists", len(census.Of(h)), 4)
		want(t, "P15.1", census.Of(h), "[[] [] [] []]")
		want(t, "P15.2", census.Audit(h), api.Audit{Limit: 50})
		want(t, "P15.3", census.Sites(h, false), "[]")
		want(t, "P15.3", census.Sites(h, true), "[]")
		want(t, "P15.4", census.Ages(h), [16]int{})
		does(t, h, push(0, 4))
	}
	does(t, h, alloc(0, 0, api.Plain, 1, 2, 3), pop(0), pop(0), major())
	want(t, "P15.1 to P15.4: again", told(h), told(made(t, small())))
}

// TestByAddress: not by serial: two threads' buffers in eden, and what was promoted behind a younger one.
func TestByAddress(t *testing.T) {
	c := small()
	c.Threads, c.Buffer, c.Large = 2, 10, 20
	h := made(t, c)
	does(t, h, push(0, 3), push(1, 1))
	does(t, h, alloc(0, 0, api.Plain, 0, 1, 0), alloc(1, 0, api.Plain, 0, 2, 0), alloc(0, 1, api.Plain, 0, 3, 0), alloc(0, 2, api.Plain, 0, 18, 0))
	want(t, "P15.1: eden", census.Of(h), "[[1 3 2] [] [] [4]]")
	does(t, h, promote())
	want(t, "P15.1: tenured", census.Of(h), "[[] [] [] [4 1 3 2]]")
}

// TestFillers: rests of buffers, open or not, are in use, and no object's.
func TestFillers(t *testing.T) {
	c := small()
	c.Threads, c.Buffer, c.Large = 2, 20, 30
	h := made(t, c)
	does(t, h, push(0, 3), push(1, 2))
	does(t, h, alloc(0, 0, api.Plain, 0, 2, 1), alloc(1, 0, api.Plain, 0, 3, 2))
	want(t, "P15.2", census.Audit(h), api.Audit{Live: 9, Young: 40, Fillers: 31, Limit: 50})
	does(t, h, alloc(0, 1, api.Plain, 0, 15, 2), alloc(0, 2, api.Plain, 0, 30, 2), copied(1, 0, -1))
	want(t, "P15.2", census.Audit(h), api.Audit{Live: 53, Floating: 5, Young: 60, Tenured: 32, Fillers: 34, Limit: 50})
	want(t, "P15.3: they are of no site", census.Sites(h, false), "[{1 1 4} {2 3 54}]")
	want(t, "P15.4: nor of an age", census.Ages(h), by(map[int]int{0: 26}))
	does(t, h, major())
	want(t, "P15.2", census.Audit(h), api.Audit{Live: 53, Young: 21, Tenured: 32, Limit: 64})
}

// TestWhatHolds: weak fields, ephemerons without their key and the registry hold nothing; slots of all frames, handles and the queue do.
func TestWhatHolds(t *testing.T) {
	c := small()
	c.Slots = 16
	h := made(t, c)
	does(t, h, push(0, 8))
	// Each has 2 pointer fields, and a number of words of its own: 4 and its raw fields.
	for i, kind := range []int{api.Weak, api.Ephemeron, api.Final, api.Plain, api.Plain, api.Plain} {
		does(t, h, alloc(0, i, kind, 2, i, 10+i))
	}
	// The weak field holds 4, the ephemeron's key is 5, its value 6.
	does(t, h, store(0, 0, 0, 3), store(0, 1, 0, 4), store(0, 1, 1, 5))
	want(t, "P15.2: all live", census.Audit(h), api.Audit{Live: 39, Young: 39, Limit: 50})
	does(t, h, copied(0, 2, -1), copied(0, 3, -1), copied(0, 4, -1), copied(0, 5, -1), push(0, 2))
	want(t, "P15.2: 1 and 2 are left", census.Audit(h), api.Audit{Live: 9, Floating: 30, Young: 39, Limit: 50})
	want(t, "P15.3", census.Sites(h, true), "[{10 1 4} {11 1 5}]")
	want(t, "P15.3", census.Sites(h, false), "[{10 1 4} {11 1 5} {12 1 6} {13 1 7} {14 1 8} {15 1 9}]")
	does(t, h, pop(0), load(0, 7, 1, 0), opened(0, 7), copied(0, 7, -1))
	want(t, "P15.3: a handle holds the key, that the value", census.Sites(h, true), "[{10 1 4} {11 1 5} {14 1 8} {15 1 9}]")
	does(t, h, major())
	want(t, "P15.3: the queue holds 3", census.Sites(h, true), "[{10 1 4} {11 1 5} {12 1 6} {14 1 8} {15 1 9}]")
	want(t, "P15.3: 4 is gone", census.Sites(h, false), "[{10 1 4} {11 1 5} {12 1 6} {14 1 8} {15 1 9}]")
	does(t, h, take(0, 6), copied(0, 6, -1))
	want(t, "P15.2: 3 has been taken, and let go", census.Audit(h), api.Audit{Live: 26, Floating: 6, Young: 32, Limit: 50})
}

// TestSites: from 0 to 255, rising, however they came; none that no object has.
func TestSites(t *testing.T) {
	h := made(t, small())
	does(t, h, push(0, 8))
	for i, site := range []int{255, 0, 254, 1, 255, 100, 0} {
		does(t, h, alloc(0, i, api.Plain, i%3, i, site))
	}
	want(t, "P15.3", census.Sites(h, false), "[{0 2 12} {1 1 5} {100 1 9} {254 1 6} {255 2 9}]")
	want(t, "P15.3", census.Sites(h, true), census.Sites(h, false))
	does(t, h, copied(0, 0, -1), copied(0, 5, -1))
	want(t, "P15.3: what lives", census.Sites(h, true), "[{0 2 12} {1 1 5} {254 1 6} {255 1 7}]")
	want(t, "P15.3: what is there", census.Sites(h, false), "[{0 2 12} {1 1 5} {100 1 9} {254 1 6} {255 2 9}]")
	want(t, "P14.6: no such site", ask(h, alloc(0, 0, api.Plain, 0, 0, 256)).err, api.ErrCellSite)
	want(t, "P15.3: the refused one isn't there", census.Sites(h, false), "[{0 2 12} {1 1 5} {100 1 9} {254 1 6} {255 2 9}]")
}

// TestSitesOfAll: every site there may be.
func TestSitesOfAll(t *testing.T) {
	c := small()
	c.Eden, c.Large, c.Slots = 65536, 65536, 256
	h := made(t, c)
	does(t, h, push(0, 256))
	var all []api.Site
	for site := range 256 {
		does(t, h, alloc(0, site, api.Plain, 0, site, 255-site))
		all = append(all, api.Site{Site: site, Objects: 1, Words: 2 + 255 - site})
	}
	want(t, "P15.3", census.Sites(h, false), all)
	want(t, "P15.3", census.Sites(h, true), all)
}

// TestAges: all of them, up to 15, of eden and both survivor spaces, dead objects too.
func TestAges(t *testing.T) {
	c := small()
	c.MaxAge, c.Survivor, c.Tenured, c.Slots = 15, 1000, 1000, 16
	h := made(t, c)
	does(t, h, push(0, 16))
	ages := [16]int{}
	for age := 15; age >= 0; age-- {
		does(t, h, alloc(0, age, api.Plain, 1, age, 0))
		ages[age] = 3 + age
		if age > 0 {
			does(t, h, minor())
		}
	}
	want(t, "P15.4", census.Ages(h), ages)
	does(t, h, copied(0, 0, -1), copied(0, 7, -1))
	want(t, "P15.4: dead ones", census.Ages(h), ages)
	does(t, h, minor())
	want(t, "P15.4: the oldest is promoted", census.Ages(h), "[0 0 4 5 6 7 8 9 0 11 12 13 14 15 16 17]")
	want(t, "P15.1", census.Of(h), "[[] [15 14 13 12 11 10 8 7 6 5 4 3 2] [] [1]]")
	does(t, h, promote())
	want(t, "P15.4: none is young", census.Ages(h), [16]int{})
}

// TestRestored: all is tenured, of age 0, and the limit that of what it was loaded with.
func TestRestored(t *testing.T) {
	g := api.Graph{
		Objects: []api.Object{
			{Serial: 4, Kind: api.Weak, Site: 9, Ptrs: []int{2}, Raws: []uint64{1, 2}},
			{Serial: 1 << 61, Kind: api.Plain, Site: 8, Ptrs: []int{1}},
			{Serial: api.MaxSerial, Kind: api.Final, Site: 9, Raws: make([]uint64, 30)},
		},
		Slots: [][][]int{{{1}, {0, 0}}}, Handles: []int{-1, 0}, Registry: []int{3}, Next: api.MaxSerial + 1,
	}
	h := restored(t, small(), g)
	want(t, "P15.1: great serials", census.Of(h), [][]uint64{nil, nil, nil, {4, 1 << 61, 1 << 62}})
	want(t, "P15.2", census.Audit(h), api.Audit{Live: 5, Floating: 35, Tenured: 40, Limit: 80})
	want(t, "P15.3", census.Sites(h, true), "[{9 1 5}]")
	want(t, "P15.3", census.Sites(h, false), "[{8 1 3} {9 2 37}]")
	want(t, "P15.4", census.Ages(h), [16]int{})
	want(t, "P14.6: no serial is left", ask(h, alloc(0, 0, api.Plain, 0, 0, 0)).err, api.ErrHeapSerial)
	want(t, "P15.1: nothing was made", census.Of(h), [][]uint64{nil, nil, nil, {4, 1 << 61, 1 << 62}})
}

// TestNoRoom: an allocation that fails makes nothing, and what its cycles took is gone.
func TestNoRoom(t *testing.T) {
	h := first(t)
	does(t, h, alloc(0, 1, api.Plain, 0, 62, 0))
	want(t, "P15.1: 6, which slot 1 held ahead of it, is there", census.Of(h), "[[6] [] [1] [7]]")
	want(t, "P15.2", census.Audit(h), api.Audit{Live: 75, Floating: 11, Young: 22, Tenured: 64, Limit: 128})
	x := ask(h, alloc(0, 1, api.Plain, 0, 62, 0))
	want(t, "P14.6", x.err, api.ErrHeapMemory)
	want(t, "P15.1", census.Of(h), "[[] [] [1] [7]]")
	want(t, "P15.2", census.Audit(h), api.Audit{Live: 75, Young: 11, Tenured: 64, Limit: 128})
}
