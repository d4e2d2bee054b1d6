package tenure_test

import (
	"testing"

	"midden/api"
	"midden/tenure"
)

func TestTurn(t *testing.T) {
	x := made(t, 64, 50, 4)
	for _, c := range []struct {
		words [16]int
		next  int
	}{
		{[16]int{}, 4},
		{[16]int{1: 32}, 4},
		{[16]int{1: 33}, 1},
		{[16]int{1: 65536}, 1},
		{[16]int{1: 32, 2: 1}, 2},
		{[16]int{2: 33}, 2},
		{[16]int{1: 10, 2: 10, 3: 12}, 4},
		{[16]int{1: 10, 2: 10, 3: 13}, 3},
		{[16]int{1: 11, 2: 11, 3: 11, 4: 65536}, 3},
		{[16]int{1: 8, 2: 8, 3: 8, 4: 9}, 4},
		{[16]int{4: 33}, 4},
		{[16]int{0: 65536}, 4},
		{[16]int{0: 65536, 1: 32}, 4},
		{[16]int{0: 1, 1: 32, 3: 1}, 3},
		{[16]int{5: 65536}, 4},
		{[16]int{15: 65536}, 4},
		{[16]int{1: 32, 5: 1, 15: 65536}, 4},
	} {
		turn(t, x, c.words, c.next)
	}
}

// TestTurnEachAge: one age alone is too much.
func TestTurnEachAge(t *testing.T) {
	for most := 1; most <= 15; most++ {
		x := made(t, 100, 10, most)
		for age := range 16 {
			next := most
			if age > 0 {
				next = min(age, most)
			}
			turn(t, x, only(age, 11), next)
			turn(t, x, only(age, 10), most)
		}
	}
}

// TestTurnGreatest: a million words together.
func TestTurnGreatest(t *testing.T) {
	var full [16]int
	for age := range full {
		full[age] = 65536
	}
	turn(t, made(t, 65536, 100, 15), full, 2)
	turn(t, made(t, 65536, 100, 1), full, 1)
	turn(t, made(t, 65536, 99, 15), full, 1)
	full[0], full[1] = 0, 0
	turn(t, made(t, 65536, 100, 15), full, 3)
}

// TestTurnFollows: a threshold hangs on the words alone, on no earlier threshold.
func TestTurnFollows(t *testing.T) {
	x := made(t, 64, 50, 15)
	for _, next := range []int{1, 15, 2, 14, 14, 3, 1, 1, 15} {
		turn(t, x, only(next, 33), next)
	}
}

func TestTurnRefuses(t *testing.T) {
	x := made(t, 64, 50, 4)
	refused(t, x, [16]int{0: -1})
	turn(t, x, [16]int{3: 33}, 3)
	for age := range 16 {
		for _, n := range odd {
			refused(t, x, only(age, n))
			words := [16]int{1: 33}
			words[age] = n
			refused(t, x, words)
		}
		words := only(age, 65536)
		if n, e := made(t, 64, 50, 4).Turn(words); n == 0 || e != api.OK {
			t.Errorf("P7.3: Turn(%v) = %d, %d: it is at the bound", words, n, e)
		}
	}
	refused(t, x, [16]int{1: greatest, 2: 1})
	refused(t, x, [16]int{1: 65537, 2: -65537})
	history(t, x, 4, 3)
	turn(t, x, [16]int{2: 33}, 2)
	history(t, x, 4, 3, 2)
}

func TestHistory(t *testing.T) {
	x := made(t, 64, 50, 15)
	past := []int{15}
	for i := range 50 {
		next := 1 + i*7%15
		turn(t, x, only(next, 33), next)
		past = append(past, next)
		history(t, x, past[max(0, len(past)-16):]...)
		refused(t, x, [16]int{1: -1})
	}
}

// TestHistorySixteen: the first threshold is there behind fifteen turns, and gone behind sixteen.
func TestHistorySixteen(t *testing.T) {
	x := made(t, 64, 50, 9)
	for range 15 {
		turn(t, x, [16]int{1: 33}, 1)
	}
	history(t, x, 9, 1, 1, 1, 1, 1, 1, 1, 1, 1, 1, 1, 1, 1, 1, 1)
	turn(t, x, [16]int{2: 33}, 2)
	history(t, x, 1, 1, 1, 1, 1, 1, 1, 1, 1, 1, 1, 1, 1, 1, 1, 2)
}

// TestHistoryApart: a caller may write into a history, and append to it.
func TestHistoryApart(t *testing.T) {
	x := made(t, 64, 50, 4)
	for range 40 {
		first, second := x.History(), x.History()
		ahead := told(x)
		kept := append([]int{}, second...)
		for i := range first {
			first[i] = -7
		}
		spare := first[:cap(first)]
		for i := range spare {
			spare[i] = -7
		}
		_ = append(first, -7, -7)
		want(t, "P7.4: another history", second, kept)
		want(t, "P7.4: what is told", told(x), ahead)
		turn(t, x, [16]int{2: 33}, 2)
		want(t, "P7.4: an earlier history", second, kept)
	}
}

// TestApart: two of them don't know of each other.
func TestApart(t *testing.T) {
	x, y := made(t, 64, 50, 4), made(t, 64, 50, 4)
	turn(t, x, [16]int{1: 33}, 1)
	want(t, "P7.1: the other one's threshold", y.Threshold(), 4)
	history(t, y, 4)
	turn(t, y, [16]int{2: 33}, 2)
	history(t, x, 4, 1)
	if _, e := tenure.New(0, 0, 0); e != api.ErrTenureSize {
		t.Errorf("P7.1: error %d", e)
	}
	history(t, x, 4, 1)
}
