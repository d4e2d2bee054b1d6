package policy_test

import (
	"fmt"
	"slices"
	"testing"

	"midden/api"
	"midden/policy"
)

const (
	least    = -1 << 63
	greatest = 1<<63 - 1
)

// odd are numbers that are below or above whatever may be here.
var odd = []int{least, least + 1, -1 << 32, -65536, -2, -1, 0, 1, 65537, 1 << 17, 1 << 31, 1 << 32, 1<<32 + 1, 1 << 62, greatest - 1, greatest}

var kinds = []int{api.TurnAlloc, api.TurnMinor, api.TurnAll, api.TurnMajor, api.TurnPlain}

// small is the chapter's configuration: of a base of 20 the limit is 40.
func small() api.Config {
	return api.Config{Eden: 64, Survivor: 64, Tenured: 100, Large: 40, Floor: 30, Num: 2, Den: 1, Target: 50, MaxAge: 3, Threads: 1, Slots: 16, Handles: 4, Workers: 1}
}

func view(eden, young, tenured, room int) api.View {
	return api.View{EdenRoom: eden, Young: young, Tenured: tenured, TenuredRoom: room}
}

func begun(t *testing.T, c api.Config, base, kind, words int) *policy.Turn {
	t.Helper()
	x, e := policy.Begin(c, base, kind, words)
	if x == nil || e != api.OK {
		t.Fatalf("P12.2: Begin(%v, %d, %d, %d): error %d", c, base, kind, words, e)
	}
	return x
}

// told: a view, and the step that is to be told for it.
type told struct {
	view api.View
	step int
}

// goes holds a turn to steps, one behind the other.
func goes(t *testing.T, what string, x *policy.Turn, steps ...told) {
	t.Helper()
	for i, s := range steps {
		if got := x.Next(s.view); got != s.step {
			t.Fatalf("%s: step %d for %v is %s, want %s", what, i+1, s.view, named(got), named(s.step))
		}
	}
}

func ran(t *testing.T, what string, x *policy.Turn, cycles ...int) {
	t.Helper()
	if got := x.Cycles(); !slices.Equal(got, cycles) {
		t.Errorf("%s: Cycles() = %v, want %v", what, got, cycles)
	}
}

func want(t *testing.T, what string, got, want any) {
	t.Helper()
	if g, w := fmt.Sprint(got), fmt.Sprint(want); g != w {
		t.Errorf("%s: %s, want %s", what, g, w)
	}
}

func named(step int) string {
	names := []string{"StepNone", "StepEden", "StepTenured", "StepMinor", "StepAll", "StepMajor", "StepFail", "StepEnd"}
	if step < 0 || step >= len(names) {
		return fmt.Sprint("no step: ", step)
	}
	return names[step]
}

// dice: numbers that look like chance and are the same at every run.
type dice uint64

func (d *dice) word() uint64 {
	*d += 0x9e3779b97f4a7c15
	x := uint64(*d)
	x = (x ^ x>>30) * 0xbf58476d1ce4e5b9
	x = (x ^ x>>27) * 0x94d049bb133111eb
	return x ^ x>>31
}

func (d *dice) below(n int) int { return int(d.word() % uint64(n)) }

// config tells one that may be.
func (d *dice) config() api.Config {
	c := small()
	space := func() int { return 64 + d.below([]int{1, 100, 65473}[d.below(3)]) }
	c.Eden, c.Survivor, c.Tenured = space(), space(), space()
	c.Large = 2 + d.below([]int{60, 2000, 65535}[d.below(3)])
	c.Floor = d.below([]int{1, 100, 65537}[d.below(3)])
	c.Den = 1 + d.below([]int{1, 9, 65536}[d.below(3)])
	c.Num = c.Den + d.below(min([]int{1, 9, 65536}[d.below(3)], 65537-c.Den))
	return c
}

// number tells one about some others: at it, one past it, anywhere or odd.
func (d *dice) number(others ...int) int {
	switch d.below(6) {
	case 0:
		return odd[d.below(len(odd))]
	case 1:
		return d.below(1 << (1 + d.below(18)))
	}
	return others[d.below(len(others))] + d.below(3) - 1
}
