package tenure_test

import (
	"fmt"
	"slices"
	"testing"

	"midden/api"
	"midden/tenure"
)

const (
	least    = -1 << 63
	greatest = 1<<63 - 1
)

// odd are numbers that are below or above whatever may be here.
var odd = []int{least, least + 1, -1 << 32, -1<<32 + 1, -100, -2, -1, 65537, 1 << 17, 1 << 31, 1 << 32, 1<<32 + 1, 1 << 48, 1 << 62, greatest - 1, greatest}

func made(t *testing.T, survivor, target, most int) *tenure.Tenure {
	t.Helper()
	x, e := tenure.New(survivor, target, most)
	if x == nil || e != api.OK {
		t.Fatalf("P7.1: New(%d, %d, %d): error %d", survivor, target, most, e)
	}
	return x
}

func want(t *testing.T, what string, got, want any) {
	t.Helper()
	if g, w := fmt.Sprint(got), fmt.Sprint(want); g != w {
		t.Errorf("%s: %s, want %s", what, g, w)
	}
}

// turn holds an answer of Turn, and the threshold behind it.
func turn(t *testing.T, x *tenure.Tenure, words [16]int, next int) {
	t.Helper()
	if n, e := x.Turn(words); n != next || e != api.OK {
		t.Errorf("P7.3: Turn(%v) = %d, %d, want %d, 0", words, n, e, next)
	}
	if n := x.Threshold(); n != next {
		t.Errorf("P7.3: Threshold() = %d behind Turn(%v), want %d", n, words, next)
	}
}

// refused holds that Turn refuses these words, and changes nothing.
func refused(t *testing.T, x *tenure.Tenure, words [16]int) {
	t.Helper()
	ahead := told(x)
	if n, e := x.Turn(words); n != 0 || e != api.ErrTenureAge {
		t.Errorf("P7.3: Turn(%v) = %d, %d, want 0, %d", words, n, e, api.ErrTenureAge)
	}
	if got := told(x); got != ahead {
		t.Errorf("P7.3: Turn(%v) is refused and changes something: %s, was %s", words, got, ahead)
	}
}

func history(t *testing.T, x *tenure.Tenure, past ...int) {
	t.Helper()
	if got := x.History(); !slices.Equal(got, past) {
		t.Errorf("P7.4: History() = %v, want %v", got, past)
	}
}

// told is all that a Tenure tells, but for what a Turn would answer.
func told(x *tenure.Tenure) string {
	var old []int
	for age := -1; age <= 17; age++ {
		if x.Old(age) {
			old = append(old, age)
		}
	}
	return fmt.Sprint(x.Threshold(), old, x.History())
}

// model: the chapter, word for word.
type model struct {
	wanted, most int
	past         []int
}

func newModel(survivor, target, most int) *model {
	return &model{wanted: survivor * target / 100, most: most, past: []int{most}}
}

func (m *model) threshold() int { return m.past[len(m.past)-1] }

func (m *model) history() []int { return m.past[max(0, len(m.past)-16):] }

func (m *model) turn(words [16]int) (int, api.Errno) {
	for _, n := range words {
		if n < 0 || n > 65536 {
			return 0, api.ErrTenureAge
		}
	}
	next := m.most
	for age := m.most; age >= 1; age-- {
		if together(words, age) > m.wanted {
			next = age
		}
	}
	m.past = append(m.past, next)
	return next, api.OK
}

// told is as the one above.
func (m *model) told() string {
	var old []int
	for age := -1; age <= 17; age++ {
		if age+1 > m.threshold() {
			old = append(old, age)
		}
	}
	return fmt.Sprint(m.threshold(), old, m.history())
}

// only tells words of one age alone.
func only(age, n int) [16]int {
	var words [16]int
	words[age] = n
	return words
}

// together tells the words of the ages from 1 to last.
func together(words [16]int, last int) int {
	sum := 0
	for age := 1; age <= last; age++ {
		sum += words[age]
	}
	return sum
}

// dice: numbers that look like chance and are the same at every run.
type dice uint64

func (d *dice) word() uint64 {
	*d += 0x9e3779b97f4a7c15
	x := uint64(*d)
	x = (x ^ x>>30) * 0xbf58476d1ce4e5b9
	x = (x ^ x>>27) * 0x94d049bb133111eb
	return x ^ x>>31
}

func (d *dice) below(n int) int { return int(d.word() % uint64(n)) }

// ages tells words by age that may be: many, few or none of each.
func (d *dice) ages() [16]int {
	var words [16]int
	top := []int{2, 20, 400, 8000, 65537}[d.below(5)]
	for age := range words {
		if d.below(3) > 0 {
			words[age] = d.below(top)
		}
	}
	return words
}

// sizes tells numbers that New takes.
func (d *dice) sizes() (survivor, target, most int) {
	return 1 + d.below([]int{4, 64, 1000, 65536}[d.below(4)]), 1 + d.below(100), 1 + d.below(15)
}
