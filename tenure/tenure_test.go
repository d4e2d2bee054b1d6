package tenure_test

import (
	"testing"

	"midden/api"
	"midden/tenure"
)

func TestErrorNumbers(t *testing.T) {
	want(t, "the chapter's errors", []int{int(api.ErrTenureSize), int(api.ErrTenureAge)}, []int{70, 71})
}

func TestNewTakes(t *testing.T) {
	for _, survivor := range []int{1, 2, 99, 100, 65535, 65536} {
		for _, target := range []int{1, 2, 50, 99, 100} {
			for most := 1; most <= 15; most++ {
				x := made(t, survivor, target, most)
				want(t, "P7.1: the first threshold", x.Threshold(), most)
				want(t, "P7.4: the first history", x.History(), []int{most})
			}
		}
	}
}

func TestNewRefuses(t *testing.T) {
	bad := func(survivor, target, most int) {
		t.Helper()
		if x, e := tenure.New(survivor, target, most); x != nil || e != api.ErrTenureSize {
			t.Errorf("P7.1: New(%d, %d, %d) = %v, %d, want nil, %d", survivor, target, most, x, e, api.ErrTenureSize)
		}
	}
	for _, n := range append([]int{0}, odd...) {
		bad(n, 50, 4)
		bad(64, n, 4)
		bad(64, 50, n)
		bad(n, n, n)
	}
	for _, n := range []int{101, 102, 128, 255, 256, 65536} {
		bad(64, n, 4)
	}
	for _, n := range []int{16, 17, 32, 100, 65536} {
		bad(64, 50, n)
	}
}

// TestWanted: so many words are not too many yet, one more is.
func TestWanted(t *testing.T) {
	for _, c := range []struct{ survivor, target, wanted int }{
		{64, 50, 32}, {65, 50, 32}, {66, 50, 33}, {1, 1, 0}, {1, 99, 0}, {1, 100, 1}, {99, 1, 0}, {100, 1, 1}, {199, 1, 1}, {200, 1, 2},
		{3, 67, 2}, {3, 66, 1}, {7, 99, 6}, {33, 33, 10}, {65535, 99, 64879}, {65536, 1, 655}, {65536, 99, 64880}, {65535, 100, 65535},
	} {
		x := made(t, c.survivor, c.target, 2)
		if n, e := x.Turn([16]int{1: c.wanted}); n != 2 || e != api.OK {
			t.Errorf("P7.1: New(%d, %d, 2): %d words are wanted: Turn = %d, %d", c.survivor, c.target, c.wanted, n, e)
		}
		if n, e := x.Turn([16]int{1: c.wanted + 1}); n != 1 || e != api.OK {
			t.Errorf("P7.1: New(%d, %d, 2): %d words are too many: Turn = %d, %d", c.survivor, c.target, c.wanted+1, n, e)
		}
	}
	x := made(t, 65536, 100, 3)
	turn(t, x, [16]int{1: 65536}, 3)
	turn(t, x, [16]int{1: 65536, 2: 1}, 2)
}

func TestOld(t *testing.T) {
	x := made(t, 64, 50, 15)
	for threshold := 15; threshold >= 1; threshold-- {
		turn(t, x, only(threshold, 33), threshold)
		for age := -20; age <= 40; age++ {
			if got := x.Old(age); got != (age+1 > threshold) {
				t.Errorf("P7.2: Old(%d) = %v at the threshold %d", age, got, threshold)
			}
		}
		for _, age := range odd {
			if got := x.Old(age); got != (age > 0) {
				t.Errorf("P7.2: Old(%d) = %v at the threshold %d", age, got, threshold)
			}
		}
	}
}

// TestAsking: what only asks changes nothing.
func TestAsking(t *testing.T) {
	x := made(t, 64, 50, 4)
	turn(t, x, [16]int{2: 40}, 2)
	for range 40 {
		want(t, "P7.2: told again", told(x), "2 [2 3 4 5 6 7 8 9 10 11 12 13 14 15 16 17] [4 2]")
	}
}
