package tuner_test

import (
	"fmt"
	"slices"
	"testing"

	"midden/api"
	"midden/arena"
	"midden/ledger"
	"midden/tuner"
)

const (
	least    = -1 << 63
	greatest = 1<<63 - 1
)

// odd are numbers that no bound of the chapter lets through.
var odd = []int{least, least + 1, -1 << 32, -2, -1, 1 << 32, 1<<32 + 1, 1<<32 + 8, greatest - 1, greatest}

// The bounds, by their numbers.
const (
	mostOps     = 4000
	mostConfigs = 64
	mostSteps   = 32
	mostWorkers = 8
)

// The face, as the chapter has it.
var (
	_ func(c api.Config, ops []api.Op) (api.Cost, api.Errno)                                                           = tuner.Cost
	_ func(goal api.Goal, a, b api.Cost) bool                                                                          = tuner.Better
	_ func(configs []api.Config, ops []api.Op, goal api.Goal, workers int, c *tuner.Cancel) (int, api.Cost, api.Errno) = tuner.Best
	_ func(c api.Config) []api.Config                                                                                  = tuner.Grid
	_ func(c api.Config, ops []api.Op, goal api.Goal, steps, workers int, k *tuner.Cancel) ([]api.Config, api.Errno)   = tuner.Climb
	_ func() *tuner.Cancel                                                                                             = tuner.NewCancel
	_ interface {
		Cancel()
		Cancelled() bool
	} = (*tuner.Cancel)(nil)
)

// small is the configuration of the chapter's examples.
func small() api.Config {
	return api.Config{Eden: 64, Survivor: 64, Tenured: 100, Large: 64, Floor: 50, Num: 2, Den: 1, Target: 50, MaxAge: 2, Threads: 1, Slots: 8, Handles: 2, Workers: 1}
}

// wide is one with the greatest spaces.
func wide() api.Config {
	c := small()
	c.Eden, c.Survivor, c.Tenured, c.Large, c.Floor = 65536, 65536, 65536, 65536, 65536
	return c
}

// setting: a number of a configuration, with the least and the greatest that it may be where the others are those of small.
type setting struct {
	name        string
	at          func(c *api.Config) *int
	first, last int
}

var settings = []setting{
	{"Eden", func(c *api.Config) *int { return &c.Eden }, 64, 65536},
	{"Survivor", func(c *api.Config) *int { return &c.Survivor }, 64, 65536},
	{"Tenured", func(c *api.Config) *int { return &c.Tenured }, 64, 65536},
	{"Large", func(c *api.Config) *int { return &c.Large }, 2, 65536},
	{"Floor", func(c *api.Config) *int { return &c.Floor }, 0, 65536},
	{"Num", func(c *api.Config) *int { return &c.Num }, 1, 65536},
	{"Den", func(c *api.Config) *int { return &c.Den }, 1, 2},
	{"Target", func(c *api.Config) *int { return &c.Target }, 1, 100},
	{"MaxAge", func(c *api.Config) *int { return &c.MaxAge }, 1, 15},
	{"Threads", func(c *api.Config) *int { return &c.Threads }, 1, 8},
	{"Slots", func(c *api.Config) *int { return &c.Slots }, 1, 4096},
	{"Handles", func(c *api.Config) *int { return &c.Handles }, 0, 1024},
	{"Buffer", func(c *api.Config) *int { return &c.Buffer }, 0, 64},
	{"Workers", func(c *api.Config) *int { return &c.Workers }, 1, 8},
}

// with tells small with one number, by its name, changed.
func with(name string, n int) api.Config { return changed(small(), name, n) }

func changed(c api.Config, name string, n int) api.Config {
	for _, s := range settings {
		if s.name == name {
			*s.at(&c) = n
			return c
		}
	}
	panic(name)
}

// wrong are configurations that may not be.
func wrong() []api.Config {
	l := []api.Config{{}}
	for _, s := range settings {
		for _, n := range append([]int{s.first - 1, s.last + 1}, odd...) {
			l = append(l, with(s.name, n))
		}
	}
	return l
}

// The operations, of thread 0. Objects have the kind Plain and a pointer field.
func op(kind int, operands ...int) api.Op {
	all := append(operands, make([]int, 5)...)
	return api.Op{Kind: kind, A: all[0], B: all[1], C: all[2], D: all[3], E: all[4]}
}
func push(n int) api.Op            { return op(api.OpPush, n) }
func alloc(slot, words int) api.Op { return op(api.OpAlloc, slot, api.Plain, 1, words-3) }

var minor, promote, major = op(api.OpMinor), op(api.OpAll), op(api.OpMajor)

// first are the operations of the chapter's examples.
func first() []api.Op {
	return []api.Op{push(3), alloc(0, 11), alloc(1, 11), alloc(1, 11), alloc(1, 11), alloc(1, 11), alloc(1, 11)}
}

// times tells a list of one thing so many times.
func times[T any](n int, x T) []T { return slices.Repeat([]T{x}, n) }

// nothings are operations that are none: they cost no time.
func nothings(n int) []api.Op { return make([]api.Op, n) }

// costs is what P22.1 says of a configuration that may be.
func costs(t *testing.T, c api.Config, ops []api.Op) api.Cost {
	t.Helper()
	l, e := ledger.New(c)
	if e != api.OK {
		t.Fatalf("P21.1: New(%+v): error %d", c, e)
	}
	for _, o := range ops {
		l.Do(o)
	}
	return l.Sum()
}

// rank tells numbers by which costs stand in the order of P22.2, the first one that differs deciding.
func rank(goal api.Goal, x api.Cost) []int {
	above := 0
	if goal.Worst > 0 && x.Worst > goal.Worst {
		above = 1
	}
	return []int{above, x.Failed, x.Total, x.Worst}
}

func better(goal api.Goal, a, b api.Cost) bool {
	return slices.Compare(rank(goal, a), rank(goal, b)) < 0
}

// answer is what Best tells, as one thing.
type answer struct {
	number int
	cost   api.Cost
	err    api.Errno
}

func best(configs []api.Config, ops []api.Op, goal api.Goal, workers int, c *tuner.Cancel) answer {
	n, x, e := tuner.Best(configs, ops, goal, workers, c)
	return answer{n, x, e}
}

// bestOf is what P22.4 says of a list, from its words: the first one of those that may be than whose cost no other's is better.
func bestOf(t *testing.T, configs []api.Config, ops []api.Op, goal api.Goal) answer {
	t.Helper()
	var may []answer
	for i, c := range configs {
		if arena.Valid(c) {
			may = append(may, answer{number: i, cost: costs(t, c, ops)})
		}
	}
	for _, a := range may {
		if !slices.ContainsFunc(may, func(b answer) bool { return better(goal, b.cost, a.cost) }) {
			return a
		}
	}
	return answer{err: api.ErrTunerNone}
}

// near is what P22.5 says of a configuration that may be.
func near(c api.Config) []api.Config {
	var l []api.Config
	add := func(name string, from, step int) {
		for _, n := range []int{from - step, from + step} {
			if x := changed(c, name, n); arena.Valid(x) {
				l = append(l, x)
			}
		}
	}
	fourth := func(n int) int {
		if n < 4 {
			return 1
		}
		return n >> 2
	}
	add("Eden", c.Eden, fourth(c.Eden))
	add("Survivor", c.Survivor, fourth(c.Survivor))
	add("Large", c.Large, fourth(c.Large))
	add("Num", c.Num, 1)
	add("Target", c.Target, 10)
	add("MaxAge", c.MaxAge, 1)
	return l
}

// rowOf is what P22.6 says of a configuration that may be.
func rowOf(t *testing.T, c api.Config, ops []api.Op, goal api.Goal, steps int) []api.Config {
	t.Helper()
	row := []api.Config{c}
	last := costs(t, c, ops)
	for len(row) < steps+1 {
		list := near(row[len(row)-1])
		a := bestOf(t, list, ops, goal)
		if a.err != api.OK || !better(goal, a.cost, last) {
			break
		}
		row, last = append(row, list[a.number]), a.cost
	}
	return row
}

// climbs holds Climb, by some workers, to a row.
func climbs(t *testing.T, what string, c api.Config, ops []api.Op, goal api.Goal, steps, workers int, row []api.Config) {
	t.Helper()
	got, e := tuner.Climb(c, ops, goal, steps, workers, nil)
	want(t, "P22.6: the error: "+what, e, api.OK)
	want(t, "P22.6: the row: "+what, got, row)
}

func want(t *testing.T, what string, got, want any) {
	t.Helper()
	if g, w := fmt.Sprintf("%+v", got), fmt.Sprintf("%+v", want); g != w {
		t.Errorf("%s: %.1500s, want %.1500s", what, g, w)
	}
}

// cancelled tells a Cancel that is.
func cancelled() *tuner.Cancel {
	c := tuner.NewCancel()
	c.Cancel()
	return c
}

// dice: numbers that look like chance and are the same at every run.
type dice uint64

func (d *dice) word() uint64 {
	*d += 0x9e3779b97f4a7c15
	x := uint64(*d)
	x = (x ^ x>>30) * 0xbf58476d1ce4e5b9
	x = (x ^ x>>27) * 0x94d049bb133111eb
	return x ^ x>>31
}

func (d *dice) below(n int) int { return int(d.word() % uint64(n)) }

func (d *dice) of(list ...int) int { return list[d.below(len(list))] }

// config tells one of many that may be: small spaces, buffers, several threads and workers.
func (d *dice) config() api.Config {
	eden := 64 + d.below(64)*d.below(3)
	den := 1 + d.below(3)
	return api.Config{
		Eden: eden, Survivor: 64 + d.below(64)*d.below(2), Tenured: 64 + d.below(300)*d.below(3),
		Large: d.of(2, 3, 8, 20, 40, 64, 65536), Floor: d.of(0, 20, 50, 100, 65536), Num: den + d.below(4), Den: den,
		Target: 1 + d.below(100), MaxAge: 1 + d.below(4)*d.below(5), Threads: 1 + d.below(3), Slots: 4 + d.below(12), Handles: d.below(4),
		Buffer: d.of(0, 0, 10, 25, eden), Workers: 1 + d.below(8)*d.below(2),
	}
}

// anyConfig tells one that may be, or not.
func (d *dice) anyConfig() api.Config {
	c := d.config()
	if d.below(3) == 0 {
		s := settings[d.below(len(settings))]
		*s.at(&c) = d.of(s.first-1, s.last+1, -1)
	}
	return c
}

// op tells an operation of a thread; some are refused.
func (d *dice) op(threads int) api.Op {
	o := api.Op{Thread: d.below(threads), A: d.below(4), B: d.below(4), C: d.below(4), Word: d.word()}
	switch k := d.below(100); {
	case k < 55:
		o.Kind, o.B, o.D, o.E = api.OpAlloc, d.of(api.Plain, api.Plain, api.Weak, api.Ephemeron, api.Final), d.below(12), d.below(256)
		if d.below(15) == 0 {
			o.D = d.of(-1, 65535, 60+d.below(200), d.below(100))
		}
	case k < 75:
		o.Kind, o.C = api.OpStore, o.C-1
	case k < 93:
		o.Kind = d.of(api.OpLoad, api.OpClear, api.OpClear, api.OpCopy, api.OpPut, api.OpOpen, api.OpFetch, api.OpClose, api.OpTake, api.OpPush, api.OpPop)
	case k < 95:
		o.Kind = d.of(api.OpMinor, api.OpMinor, api.OpAll, api.OpMajor)
	default:
		o.Kind = d.below(30) - 2
	}
	return o
}

// script tells so many operations, behind those that give each thread a frame of four slots.
func (d *dice) script(threads, many int) []api.Op {
	var ops []api.Op
	for thread := range threads {
		ops = append(ops, api.Op{Kind: api.OpPush, Thread: thread, A: 4})
	}
	for range many {
		ops = append(ops, d.op(threads))
	}
	return ops
}

// goal tells one of all kinds.
func (d *dice) goal() api.Goal {
	return api.Goal{Worst: d.of(0, 0, -1, least, 1, 30, 60, 100, 150, 300, greatest)}
}
