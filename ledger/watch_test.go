package ledger_test

import (
	"fmt"
	"testing"

	"midden/api"
	"midden/ledger"
)

// run: what a ledger is told, and what its events and its sum then are.
type run struct {
	what   string
	c      api.Config
	ops    []api.Op
	events []api.Event
	sum    api.Cost
}

// watches holds a ledger to a run.
func (x run) watches(t *testing.T) *ledger.Ledger {
	t.Helper()
	l := made(t, x.c)
	for _, o := range x.ops {
		l.Do(o)
	}
	want(t, "P21.2, P21.3: "+x.what, l.Events(), x.events)
	want(t, "P21.5: "+x.what, l.Sum(), x.sum)
	want(t, "P21.7: "+x.what, l.Bytes(), asked(x.events))
	return l
}

// five makes as many objects of 11 words, in slots 0 to 4.
func five() []api.Op {
	var ops []api.Op
	for slot := range 5 {
		ops = append(ops, alloc(slot, 11))
	}
	return ops
}

func then(ops []api.Op, more ...api.Op) []api.Op { return append(ops, more...) }

func buffered() api.Config {
	c := small()
	c.Buffer = 20
	return c
}

// roomy lays objects of 20 words and more in the tenured space, as long as there is room.
func roomy() api.Config {
	c := small()
	c.Large, c.Floor = 20, 100
	return c
}

func TestRuns(t *testing.T) {
	nothing := sizes(0, 0, 0, 0)
	for _, x := range []run{
		{"nothing was done", small(), nil, []api.Event{}, api.Cost{}},
		{"forced cycles of nothing", small(), []api.Op{minor, promote, major},
			[]api.Event{event(0, nothing, nothing, 1), event(1, nothing, nothing, 2), event(2, nothing, nothing, 3)},
			api.Cost{Ops: 3, Minors: 1, Alls: 1, Majors: 1}},
		{"no cycles", small(), []api.Op{push(3), alloc(0, 11), alloc(1, 20), cleared(0), audit}, []api.Event{}, api.Cost{Ops: 5, Made: 2}},
		{"what is tenured grows", small(), []api.Op{push(3), alloc(0, 11), alloc(1, 9), cleared(1), promote},
			[]api.Event{event(4, sizes(20, 0, 11, 0), sizes(0, 11, 11, 0), 2)},
			api.Cost{Ops: 5, Made: 2, Alls: 1, Freed: 9, Promoted: 11, Worst: 11, Total: 11}},
		{"two cycles: what is promoted is above the limit", small(), then([]api.Op{push(5)}, then(five(), promote)...),
			[]api.Event{event(6, sizes(55, 0, 55, 0), sizes(0, 55, 55, 0), 2, 3)},
			api.Cost{Ops: 7, Made: 5, Alls: 1, Majors: 1, Worst: 55 + 110, Total: 55 + 110}},
		{"Tenured falls: a minor one that isn't guaranteed", small(), then([]api.Op{push(5)}, then(five(), then([]api.Op{promote}, then(five(), minor)...)...)...),
			[]api.Event{event(6, sizes(55, 0, 55, 0), sizes(0, 55, 55, 0), 2, 3), event(12, sizes(55, 55, 55, 0), sizes(55, 0, 55, 0), 3, 1)},
			api.Cost{Ops: 13, Made: 10, Minors: 1, Alls: 1, Majors: 2, Freed: 55, Worst: 165, Total: 165 + 165}},
		{"big ones, with room, without, with room again", small(), []api.Op{push(3), alloc(0, 100), alloc(1, 100), alloc(1, 100), cleared(0), alloc(1, 100), major},
			[]api.Event{
				event(1, nothing, sizes(0, 100, 100, 0), 3),
				failed(event(2, sizes(0, 100, 100, 0), sizes(0, 100, 100, 0), 3)), failed(event(3, sizes(0, 100, 100, 0), sizes(0, 100, 100, 0), 3)),
				event(5, sizes(0, 100, 0, 0), sizes(0, 100, 100, 0), 3), event(6, sizes(0, 100, 100, 0), sizes(0, 100, 100, 0), 3)},
			api.Cost{Ops: 7, Made: 2, Majors: 5, Failed: 2, Freed: 100, Worst: 200, Total: 1000}},
		{"big ones that run no cycle are no events", roomy(), []api.Op{push(1), alloc(0, 20), alloc(0, 20), major},
			[]api.Event{event(3, sizes(0, 40, 20, 0), sizes(0, 20, 20, 0), 3)},
			api.Cost{Ops: 4, Made: 2, Majors: 1, Freed: 20, Worst: 40, Total: 40}},
		{"promoted twice, by age at last", small(), []api.Op{push(2), alloc(0, 20), promote, alloc(1, 10), minor, minor, minor},
			[]api.Event{
				event(2, sizes(20, 0, 20, 0), sizes(0, 20, 20, 0), 2), event(4, sizes(10, 20, 30, 0), sizes(10, 20, 30, 0), 1),
				event(5, sizes(10, 20, 30, 0), sizes(10, 20, 30, 0), 1), event(6, sizes(10, 20, 30, 0), sizes(0, 30, 30, 0), 1)},
			api.Cost{Ops: 7, Made: 2, Minors: 3, Alls: 1, Promoted: 30, Worst: 20, Total: 20 + 10 + 10 + 10}},
		{"fillers are no objects", buffered(), []api.Op{push(2), alloc(0, 11), alloc(1, 11), minor},
			[]api.Event{event(3, sizes(40, 0, 22, 18), sizes(22, 0, 22, 0), 1)},
			api.Cost{Ops: 4, Made: 2, Minors: 1, Worst: 22, Total: 22}},
		{"fillers behind an event", buffered(), []api.Op{push(2), alloc(0, 11), alloc(1, 11), alloc(0, 11), alloc(0, 11)},
			[]api.Event{event(4, sizes(60, 0, 22, 27), sizes(22+20, 0, 22, 9), 1)},
			api.Cost{Ops: 5, Made: 4, Minors: 1, Freed: 11, Worst: 42, Total: 42}},
	} {
		x.watches(t)
	}
}

// TestNumbers: refused operations are numbered too, whatever they are refused for.
func TestNumbers(t *testing.T) {
	l := made(t, small())
	for i, o := range []api.Op{
		op(api.OpPop), alloc(0, 11), {}, {Kind: 77}, {Kind: -1}, push(9), push(0), {Kind: api.OpPush, Thread: 1, A: 1}, push(2), alloc(2, 11), op(api.OpAlloc, 0, 9, 1, 1),
		op(api.OpAlloc, 0, api.Weak), op(api.OpHash, 0), op(api.OpTake, 0), op(api.OpFetch, 0, 0), op(api.OpLoad, 0, 1, 0), op(api.OpStore, 0, 0, 1), op(api.OpGet, 0), op(api.OpPut, 0),
		op(api.OpCopy, 0, 5), op(api.OpClear, -1), op(api.OpSame, 0, 5), op(api.OpShape, 0), op(api.OpOpen, 3), op(api.OpClose, 0), op(api.OpRetained, 0), op(api.OpPath, 0),
	} {
		if r := l.Do(o); (r.Err == api.OK) != (i == 8) || len(r.Cycles) != 0 {
			t.Fatalf("%+v: %+v", o, r)
		}
		want(t, "P21.5: refused ones count", l.Sum(), api.Cost{Ops: i + 1})
		want(t, "P21.2: refused ones that run no cycle are no events", l.Events(), []api.Event{})
	}
	n := l.Sum().Ops
	l.Do(major)
	want(t, "P21.2: the number behind refused ones", l.Events()[0].Op, n)
	for range 3 {
		l.Do(op(api.OpPop, 0))
		l.Do(api.Op{Kind: api.OpAlloc, A: 1, B: api.Plain, D: 65535})
	}
	l.Do(minor)
	ops := []int{}
	for _, e := range l.Events() {
		ops = append(ops, e.Op)
	}
	want(t, "P21.2: the numbers of the events", ops, []int{n, n + 7})
}

// TestMade: each object that was made counts, of whatever kind, and no other operation.
func TestMade(t *testing.T) {
	l := made(t, small())
	l.Do(push(4))
	many := 0
	for _, o := range []api.Op{op(api.OpAlloc, 0, api.Plain), op(api.OpAlloc, 1, api.Weak, 1), op(api.OpAlloc, 2, api.Ephemeron, 2), op(api.OpAlloc, 3, api.Final), alloc(0, 64), alloc(0, 64)} {
		if l.Do(o).Err == api.OK {
			many++
		}
		want(t, "P21.5: Made", l.Sum().Made, many)
	}
	want(t, "all but the last", many, 5)
	for _, kind := range []int{api.OpPush, api.OpOpen, api.OpCopy, api.OpSame, api.OpHash, api.OpMinor, api.OpMajor, api.OpDump, api.OpPop} {
		l.Do(op(kind, 1, 1))
		want(t, "P21.5: Made", l.Sum().Made, many)
	}
}

// TestFreedWithFields: the object that was made counts with both kinds of fields and its header.
func TestFreedWithFields(t *testing.T) {
	for ptrs := range 4 {
		for raws := range 4 {
			l := did(t, push(2), alloc(0, 40), alloc(0, 20), op(api.OpAlloc, 1, api.Plain, ptrs, 20+raws))
			n := 2 + ptrs + 20 + raws
			want(t, "P21.2", l.Events(), []api.Event{event(3, sizes(60, 0, 20, 0), sizes(20+n, 0, 20+n, 0), 1)})
			want(t, "P21.5: Freed", l.Sum(), api.Cost{Ops: 4, Made: 3, Minors: 1, Freed: 40, Worst: 20 + n, Total: 20 + n})
		}
	}
}

// TestWorst: the greatest pause, wherever it stands.
func TestWorst(t *testing.T) {
	l := did(t, push(4), alloc(0, 20), alloc(1, 10), minor)
	want(t, "P21.5: the first", l.Sum().Worst, 30)
	l.Do(major)
	want(t, "P21.5: a greater one", l.Sum().Worst, 60)
	l.Do(cleared(0))
	l.Do(minor)
	want(t, "P21.5: lesser ones behind it", fmt.Sprint(l.Sum().Worst, l.Sum().Total), "60 100")
}
