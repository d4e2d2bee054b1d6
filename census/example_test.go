package census_test

import (
	"testing"

	"midden/api"
	"midden/census"
)

// TestExample: layer 14's first example, and what becomes of it.
func TestExample(t *testing.T) {
	h := first(t)
	want(t, "P15.1", census.Of(h), "[[6] [] [1 5] []]")
	want(t, "P15.2: 5 floats", census.Audit(h), api.Audit{Live: 22, Floating: 11, Young: 33, Limit: 50})
	want(t, "P15.3", census.Sites(h, false), "[{5 3 33}]")
	want(t, "P15.3", census.Sites(h, true), "[{5 2 22}]")
	want(t, "P15.4", census.Ages(h), by(map[int]int{0: 11, 1: 22}))
	does(t, h, minor())
	want(t, "P15.1: in A again", census.Of(h), "[[] [1 6] [] []]")
	want(t, "P15.2", census.Audit(h), api.Audit{Live: 22, Young: 22, Limit: 50})
	want(t, "P15.4", census.Ages(h), by(map[int]int{1: 11, 2: 11}))
	does(t, h, minor())
	want(t, "P15.1: 1 is promoted", census.Of(h), "[[] [] [6] [1]]")
	want(t, "P15.2", census.Audit(h), api.Audit{Live: 22, Young: 11, Tenured: 11, Limit: 50})
	want(t, "P15.4: 1 is young no more", census.Ages(h), by(map[int]int{2: 11}))
	does(t, h, copied(0, 0, -1))
	want(t, "P15.1: it is there still", census.Of(h), "[[] [] [6] [1]]")
	want(t, "P15.2: but floats", census.Audit(h), api.Audit{Live: 11, Floating: 11, Young: 11, Tenured: 11, Limit: 50})
	does(t, h, major())
	want(t, "P15.1", census.Of(h), "[[] [] [6] []]")
	want(t, "P15.2", census.Audit(h), api.Audit{Live: 11, Young: 11, Limit: 50})
}
