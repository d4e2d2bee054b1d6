package tuner_test

import (
	"fmt"
	"testing"

	"midden/api"
	"midden/arena"
	"midden/tuner"
)

// TestGridAtBounds: what becomes of each field that is turned at its bounds and one step ahead of them; the others have no neighbours in it.
func TestGridAtBounds(t *testing.T) {
	for _, x := range []struct {
		name string
		n    int
		near []int // that field's of the neighbours in which it differs, in their order
	}{
		{"Eden", 64, []int{80}},
		{"Eden", 84, []int{105}},              // 63 may not be
		{"Eden", 85, []int{64, 106}},          // 85 / 4 is 21
		{"Eden", 52429, []int{39322, 65536}},  // 13107 more
		{"Eden", 52430, []int{39323}},         // 65537 may not be
		{"Eden", 65536, []int{49152}},         // a quarter more may not be
		{"Eden", 101, []int{76, 126}},         // rounded down
		{"Eden", 103, []int{78, 128}},         // likewise
		{"Survivor", 64, []int{80}},           //
		{"Survivor", 84, []int{105}},          //
		{"Survivor", 85, []int{64, 106}},      //
		{"Survivor", 65536, []int{49152}},     //
		{"Survivor", 103, []int{78, 128}},     //
		{"Large", 2, []int{3}},                // a quarter is 0: a step of 1, and 1 may not be
		{"Large", 3, []int{2, 4}},             // likewise
		{"Large", 4, []int{3, 5}},             // a quarter is 1
		{"Large", 7, []int{6, 8}},             //
		{"Large", 8, []int{6, 10}},            //
		{"Large", 64, []int{48, 80}},          //
		{"Large", 52429, []int{39322, 65536}}, //
		{"Large", 52430, []int{39323}},        //
		{"Large", 65536, []int{49152}},        //
		{"Num", 1, []int{2}},                  // below Den it may not be
		{"Num", 2, []int{1, 3}},               //
		{"Num", 65535, []int{65534, 65536}},   //
		{"Num", 65536, []int{65535}},          //
		{"Target", 1, []int{11}},              //
		{"Target", 10, []int{20}},             // 0 may not be
		{"Target", 11, []int{1, 21}},          //
		{"Target", 50, []int{40, 60}},         //
		{"Target", 90, []int{80, 100}},        //
		{"Target", 91, []int{81}},             //
		{"Target", 100, []int{90}},            //
		{"MaxAge", 1, []int{2}},               //
		{"MaxAge", 2, []int{1, 3}},            //
		{"MaxAge", 14, []int{13, 15}},         //
		{"MaxAge", 15, []int{14}},             //
		{"Tenured", 200, nil}, {"Floor", 8, nil}, {"Threads", 3, nil}, {"Slots", 9, nil}, {"Handles", 7, nil}, {"Buffer", 9, nil}, {"Workers", 4, nil},
	} {
		c := with(x.name, x.n)
		got := tuner.Grid(c)
		want(t, fmt.Sprint("P22.5: all neighbours of ", x.name, x.n), got, near(c))
		var list []int
		for _, s := range settings {
			for _, g := range got {
				if s.name == x.name && *s.at(&g) != x.n {
					list = append(list, *s.at(&g))
				}
			}
		}
		want(t, fmt.Sprint("P22.5: ", x.name, x.n), list, x.near)
	}
}

// TestGridOfNumbersTogether: neighbours that may not be for the sake of another number.
func TestGridOfNumbersTogether(t *testing.T) {
	c := with("Eden", 100)
	c.Buffer, c.Num, c.Den = 76, 3, 3
	for _, g := range tuner.Grid(c) {
		if g.Eden == 75 || g.Num == 2 {
			t.Errorf("P22.5: %+v may not be", g)
		}
	}
	c.Buffer, c.Den = 75, 2
	want(t, "P22.5", tuner.Grid(c)[:2], []api.Config{changed(c, "Eden", 75), changed(c, "Eden", 125)})
	want(t, "P22.5", len(tuner.Grid(c)), 11)
	c.Survivor = 100
	want(t, "P22.5: all twelve", tuner.Grid(c), []api.Config{
		changed(c, "Eden", 75), changed(c, "Eden", 125), changed(c, "Survivor", 75), changed(c, "Survivor", 125), changed(c, "Large", 48), changed(c, "Large", 80),
		changed(c, "Num", 2), changed(c, "Num", 4), changed(c, "Target", 40), changed(c, "Target", 60), changed(c, "MaxAge", 1), changed(c, "MaxAge", 3),
	})
}

func TestGridOfWrongOnes(t *testing.T) {
	for _, c := range wrong() {
		if l := tuner.Grid(c); len(l) != 0 {
			t.Errorf("P22.5: Grid(%+v): %+v", c, l)
		}
	}
	// Even where a neighbour may be.
	for _, c := range []api.Config{with("Eden", 63), with("Survivor", 60), with("Large", 1), with("Target", 105), with("Target", 0), with("MaxAge", 0), with("MaxAge", 16), with("Num", 65537), with("Num", 0)} {
		want(t, "P22.5: none of one that may not be", len(tuner.Grid(c)), 0)
	}
}

// TestGridOfMany: drawn ones; each neighbour may be, and differs from the configuration and from the others.
func TestGridOfMany(t *testing.T) {
	for seed := range 3000 {
		d := dice(100 + seed)
		c := d.config()
		for _, s := range settings {
			if d.below(8) == 0 {
				*s.at(&c) = s.first + d.below(s.last-s.first+1)
			}
		}
		if !arena.Valid(c) {
			want(t, "P22.5: none", len(tuner.Grid(c)), 0)
			continue
		}
		list := tuner.Grid(c)
		want(t, fmt.Sprintf("P22.5: %+v", c), list, near(c))
		seen := map[api.Config]bool{c: true}
		for _, x := range list {
			if seen[x] || !arena.Valid(x) {
				t.Errorf("P22.5: of %+v: %+v", c, x)
			}
			seen[x] = true
		}
	}
}
