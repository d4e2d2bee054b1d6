package ledger_test

import (
	"testing"

	"midden/api"
	"midden/ledger"
	"midden/mutator"
)

// setting: a number of a configuration, with the least and the greatest that it may be where the others are those of small.
type setting struct {
	name        string
	at          func(c *api.Config) *int
	first, last int
}

var settings = []setting{
	{"Eden", func(c *api.Config) *int { return &c.Eden }, 64, 65536},
	{"Survivor", func(c *api.Config) *int { return &c.Survivor }, 64, 65536},
	{"Tenured", func(c *api.Config) *int { return &c.Tenured }, 64, 65536},
	{"Large", func(c *api.Config) *int { return &c.Large }, 2, 65536},
	{"Floor", func(c *api.Config) *int { return &c.Floor }, 0, 65536},
	{"Num", func(c *api.Config) *int { return &c.Num }, 1, 65536},
	{"Den", func(c *api.Config) *int { return &c.Den }, 1, 2},
	{"Target", func(c *api.Config) *int { return &c.Target }, 1, 100},
	{"MaxAge", func(c *api.Config) *int { return &c.MaxAge }, 1, 15},
	{"Threads", func(c *api.Config) *int { return &c.Threads }, 1, 8},
	{"Slots", func(c *api.Config) *int { return &c.Slots }, 1, 4096},
	{"Handles", func(c *api.Config) *int { return &c.Handles }, 0, 1024},
	{"Buffer", func(c *api.Config) *int { return &c.Buffer }, 0, 64},
	{"Workers", func(c *api.Config) *int { return &c.Workers }, 1, 8},
}

// with is small with one number changed.
func (s setting) with(n int) api.Config {
	c := small()
	*s.at(&c) = n
	return c
}

// TestNew: a ledger of each configuration that may be has done nothing, and its mutator is one of that configuration.
func TestNew(t *testing.T) {
	for _, s := range settings {
		for _, n := range []int{s.first, s.last} {
			l, m := made(t, s.with(n)), alone(t, s.with(n))
			want(t, "P21.1: no events", l.Events(), []api.Event{})
			want(t, "P21.1: no costs", l.Sum(), api.Cost{})
			want(t, "P21.1: no log", l.Bytes(), asked(nil))
			for _, o := range []api.Op{op(api.OpDump), audit, op(api.OpCensus), op(api.OpPop), push(s.with(n).Slots + 1), push(1), major} {
				want(t, "P21.1: "+s.name, l.Do(o), m.Do(o))
			}
		}
	}
}

func TestNewRefuses(t *testing.T) {
	wrong := []api.Config{{}}
	for _, s := range settings {
		for _, n := range append([]int{s.first - 1, s.last + 1}, odd...) {
			wrong = append(wrong, s.with(n))
		}
	}
	for _, c := range wrong {
		_, why := mutator.New(c)
		if l, e := ledger.New(c); l != nil || e != why || e != api.ErrArenaConfig {
			t.Errorf("P21.1: New(%+v): %v, error %d, want %d", c, l, e, why)
		}
	}
}
