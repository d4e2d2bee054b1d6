package ledger_test

import (
	"fmt"
	"slices"
	"testing"

	"midden/api"
	"midden/ledger"
	"midden/mutator"
)

// config tells one of many: small spaces, buffers, several threads and workers.
func (d *dice) config() api.Config {
	eden := 64 + d.below(64)*d.below(3)
	den := 1 + d.below(3)
	return api.Config{
		Eden: eden, Survivor: 64 + d.below(64)*d.below(2), Tenured: 64 + d.below(300)*d.below(3),
		Large: d.of(2, 8, 20, 40, 64, 65536), Floor: d.of(0, 20, 50, 100, 65536), Num: den + d.below(4), Den: den,
		Target: 1 + d.below(100), MaxAge: 1 + d.below(4)*d.below(5), Threads: 1 + d.below(3), Slots: 4 + d.below(12), Handles: d.below(4),
		Buffer: d.of(0, 0, 10, 25, eden), Workers: 1 + d.below(8)*d.below(2),
	}
}

// op tells an operation; many are refused.
func (d *dice) op(c api.Config) api.Op {
	o := api.Op{Thread: d.below(c.Threads), A: d.below(4), B: d.below(4), C: d.below(4), Word: d.word()}
	if d.below(80) == 0 {
		o.Thread = d.of(-1, c.Threads)
	}
	switch k := d.below(100); {
	case k < 40:
		o.Kind, o.B, o.D, o.E = api.OpAlloc, d.of(api.Plain, api.Plain, api.Weak, api.Ephemeron, api.Final), d.below(12), d.below(256)
		if d.below(15) == 0 {
			o.D = d.of(-1, 65535, 60+d.below(200), d.below(100))
		}
	case k < 60:
		o.Kind, o.C = api.OpStore, o.C-1
	case k < 80:
		o.Kind = d.of(api.OpLoad, api.OpClear, api.OpClear, api.OpCopy, api.OpPut, api.OpOpen, api.OpFetch, api.OpClose, api.OpTake, api.OpPush, api.OpPop)
	case k < 86:
		o.Kind = d.of(api.OpMinor, api.OpMinor, api.OpAll, api.OpMajor)
	default:
		o.Kind = d.below(30) - 2
	}
	return o
}

// pushes tells operations that give each thread a frame of four slots.
func pushes(c api.Config) []api.Op {
	var ops []api.Op
	for thread := range c.Threads {
		ops = append(ops, api.Op{Kind: api.OpPush, Thread: thread, A: 4})
	}
	return ops
}

// script tells a configuration and so many operations.
func (d *dice) script(many int) (api.Config, []api.Op) {
	c := d.config()
	ops := pushes(c)
	for range many {
		ops = append(ops, d.op(c))
	}
	return c, ops
}

// book: the model of a ledger: a mutator that is asked for an audit ahead of each operation and behind it.
type book struct {
	m      *mutator.Mutator
	ops    int
	made   int
	freed  int
	events []api.Event
}

func (b *book) sizes() api.Sizes {
	a := b.m.Do(audit).Audit
	return sizes(a.Young, a.Tenured, a.Live, a.Fillers)
}

// do tells the reply, and how many words were made.
func (b *book) do(o api.Op) (api.Reply, int) {
	before := b.sizes()
	r := b.m.Do(o)
	after := b.sizes()
	words := 0
	if o.Kind == api.OpAlloc && r.Err == api.OK {
		words = 2 + o.C + o.D
		b.made++
	}
	if len(r.Cycles) > 0 {
		b.events = append(b.events, api.Event{Op: b.ops, Cycles: slices.Clone(r.Cycles), Before: before, After: after, Failed: r.Err == api.ErrHeapMemory})
		b.freed += wordsOf(before) + words - wordsOf(after)
	}
	b.ops++
	return r, words
}

func wordsOf(s api.Sizes) int { return s.Young + s.Tenured - s.Fillers }

// sum tells it from the beginning on: all but three of its numbers from the events alone (P21.11).
func (b *book) sum() api.Cost {
	s := told(b.events)
	s.Ops, s.Made, s.Freed = b.ops, b.made, b.freed
	return s
}

func told(events []api.Event) api.Cost {
	var s api.Cost
	for _, e := range events {
		grown, pause := max(0, e.After.Tenured-e.Before.Tenured), 0
		for _, c := range e.Cycles {
			switch c {
			case api.CycleMinor:
				s.Minors++
				pause += e.After.Young + grown
			case api.CycleAll:
				s.Alls++
				pause += e.After.Young + grown
			case api.CycleMajor:
				s.Majors++
				pause += 2*e.After.Young + 2*e.After.Tenured
			}
		}
		if e.Failed {
			s.Failed++
		}
		if !ran(e.Cycles, api.CycleMajor) {
			s.Promoted += grown
		}
		s.Total += pause
		s.Worst = max(s.Worst, pause)
	}
	return s
}

// TestAsTheModel: replies, events, sums and bytes of runs of the dice, at each step.
func TestAsTheModel(t *testing.T) {
	met := map[string]int{}
	for seed := range 250 {
		d := dice(1000 + seed)
		c, ops := d.script(200)
		l, b := made(t, c), &book{m: alone(t, c)}
		for _, o := range ops {
			seen := len(b.events)
			r, words := b.do(o)
			want(t, fmt.Sprintf("P21.2, P21.9: %+v", o), l.Do(o), r)
			want(t, "P21.5: the sum", l.Sum(), b.sum())
			if len(b.events) > seen {
				e := b.events[seen]
				want(t, "P21.2, P21.3: the events", l.Events(), b.events)
				pauses(t, "of a run", e, told([]api.Event{e}).Total)
				behind(t, o, e, words)
				note(met, e)
			}
			if t.Failed() {
				t.Fatalf("seed %d, %+v", seed, c)
			}
		}
		want(t, "P21.3: the events at the end", l.Events(), b.events)
		want(t, "P21.7: the bytes", l.Bytes(), asked(b.events))
		reads(t, "P21.11: a ledger's bytes", l.Bytes(), b.events)
	}
	for _, what := range []string{"[1]", "[2]", "[3]", "[3 1]", "[3 2]", "[1 3]", "[2 3]", "failed", "fallen", "fallen with a minor one", "grown", "fillers"} {
		if met[what] < 10 {
			t.Errorf("%s only %d times: that says little (%v)", what, met[what], met)
		}
	}
}

// behind holds an event to P21.10.
func behind(t *testing.T, o api.Op, e api.Event, made int) {
	t.Helper()
	if ran(e.Cycles, api.CycleMajor) && o.Kind != api.OpAlloc {
		want(t, fmt.Sprintf("P21.10: nothing floats behind %+v", e), e.After.Live, wordsOf(e.After))
	}
	if wordsOf(e.Before)+made < wordsOf(e.After) {
		t.Errorf("P21.10: more words behind %+v, which made %d", e, made)
	}
	if e.Failed && !ran(e.Cycles, api.CycleMajor) {
		t.Errorf("P21.10: %+v failed without a major cycle", e)
	}
}

// note counts what an event has.
func note(met map[string]int, e api.Event) {
	met[fmt.Sprint(e.Cycles)]++
	yes := map[string]bool{
		"failed":                  e.Failed,
		"fallen":                  e.After.Tenured < e.Before.Tenured,
		"fallen with a minor one": e.After.Tenured < e.Before.Tenured && len(e.Cycles) > 1,
		"grown":                   e.After.Tenured > e.Before.Tenured && !ran(e.Cycles, api.CycleMajor),
		"fillers":                 e.Before.Fillers > 0 && e.After.Fillers > 0,
	}
	for what, is := range yes {
		if is {
			met[what]++
		}
	}
}

// TestFloatingBehindAlloc: what the slot of an allocation held ahead of it may float, as P21.10 says.
func TestFloatingBehindAlloc(t *testing.T) {
	l := did(t, push(1), alloc(0, 36), alloc(0, 64))
	e := l.Events()
	want(t, "P21.2", e, []api.Event{event(2, sizes(36, 0, 36, 0), sizes(36, 64, 64, 0), 3)})
	l.Do(major)
	want(t, "P21.10", l.Events()[1], event(3, sizes(36, 64, 64, 0), sizes(0, 64, 64, 0), 3))
}

// TestAskingChangesNothing: of two ledgers that do the same, one is asked for everything all the time.
func TestAskingChangesNothing(t *testing.T) {
	for seed := range 60 {
		d := dice(5000 + seed)
		c, ops := d.script(150)
		asked, left, m := made(t, c), made(t, c), alone(t, c)
		for _, o := range ops {
			r := m.Do(o)
			want(t, fmt.Sprintf("P21.9: %+v, asked", o), asked.Do(o), r)
			want(t, fmt.Sprintf("P21.9: %+v", o), left.Do(o), r)
			for range 2 {
				asked.Sum()
				asked.Bytes()
				for _, e := range asked.Events() {
					ledger.Pause(e)
				}
			}
		}
		want(t, "P21.9: all that is told", all(asked), all(left))
	}
}

// all is what a ledger tells.
func all(l *ledger.Ledger) string {
	return fmt.Sprintf("%+v %+v % x", l.Events(), l.Sum(), l.Bytes())
}

// TestSameEveryTime: what is told hangs on what was done alone: not on how many workers mark, not on the run.
func TestSameEveryTime(t *testing.T) {
	for seed := range 20 {
		var tells []string
		for _, workers := range []int{1, 1, 2, 8} {
			d := dice(6000 + seed)
			c, ops := d.script(150)
			c.Workers = workers
			l := made(t, c)
			for _, o := range ops {
				l.Do(o)
			}
			tells = append(tells, all(l))
		}
		for _, x := range tells[1:] {
			want(t, "rule 6: another run", x, tells[0])
		}
	}
}

// TestTurns: two ledgers used in turns don't touch one another.
func TestTurns(t *testing.T) {
	for seed := range 20 {
		var apart, inTurns [2]string
		var ledgers [2]*ledger.Ledger
		var ops [2][]api.Op
		for i := range 2 {
			d := dice(4000 + 100*i + seed)
			var c api.Config
			c, ops[i] = d.script(150)
			ops[i] = ops[i][len(pushes(c)):]
			l := made(t, c)
			ledgers[i] = made(t, c)
			for _, o := range slices.Concat(pushes(c), ops[i]) {
				apart[i] += fmt.Sprintf("%+v\n", l.Do(o))
			}
			apart[i] += all(l)
			for _, o := range pushes(c) {
				inTurns[i] += fmt.Sprintf("%+v\n", ledgers[i].Do(o))
			}
		}
		for n := range ops[0] {
			for i, l := range ledgers {
				inTurns[i] += fmt.Sprintf("%+v\n", l.Do(ops[i][n]))
				all(l)
			}
		}
		for i, l := range ledgers {
			want(t, "two ledgers", inTurns[i]+all(l), apart[i])
		}
	}
}

// TestMuchIsDone: a run with many objects that live ends soon: what an operation costs that runs no cycle doesn't hang on how many there are.
func TestMuchIsDone(t *testing.T) {
	c := small()
	c.Eden, c.Survivor, c.Tenured, c.Floor = 65536, 65536, 65536, 65536
	l, b := made(t, c), &book{m: alone(t, c)}
	ops := []api.Op{push(2)}
	for range 20000 {
		ops = append(ops, alloc(1, 3), op(api.OpStore, 1, 0, 0), op(api.OpCopy, 0, 1))
	}
	for _, o := range ops {
		want(t, "P21.9", l.Do(o), b.m.Do(o))
	}
	b.ops, b.made = len(ops), 20000
	b.do(minor)
	l.Do(minor)
	want(t, "P21.2", l.Events(), []api.Event{event(60001, sizes(60000, 0, 60000, 0), sizes(60000, 0, 60000, 0), 1)})
	want(t, "P21.5", l.Sum(), b.sum())
}
