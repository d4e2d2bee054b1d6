package mutator_test

import (
	"fmt"
	"slices"
	"testing"

	"midden/api"
	"midden/mutator"
)

const (
	least    = -1 << 63
	greatest = 1<<63 - 1
	lastWord = 1<<64 - 1
)

// odd are numbers that are no thread, slot, field, handle, size or kind of any mutator here.
var odd = []int{least, least + 1, -1 << 32, -65536, -3, -2, 1 << 17, 1 << 31, 1 << 32, 1<<32 + 1, 1 << 62, greatest - 1, greatest}

// small is the configuration of the chapter's examples, smallText its line.
func small() api.Config {
	return api.Config{Eden: 64, Survivor: 64, Tenured: 100, Large: 64, Floor: 50, Num: 2, Den: 1, Target: 50, MaxAge: 2, Threads: 1, Slots: 8, Handles: 2, Workers: 1}
}

const smallText = "heap eden 64 survivor 64 tenured 100 large 64 floor 50 ratio 2 1 target 50 age 2 threads 1 slots 8 handles 2 buffer 0 workers 1\n"

func made(t *testing.T, c api.Config) *mutator.Mutator {
	t.Helper()
	m, e := mutator.New(c)
	if m == nil || e != api.OK {
		t.Fatalf("P19.1: New(%+v): error %d", c, e)
	}
	return m
}

func loaded(t *testing.T, c api.Config, b []byte) *mutator.Mutator {
	t.Helper()
	m, place, e := mutator.Load(c, b)
	if m == nil || e != api.OK || place != 0 {
		t.Fatalf("P19.1: Load(%+v, % x): error %d at %d", c, b, e, place)
	}
	return m
}

// begun makes a mutator and does operations that go well and run no cycle.
func begun(t *testing.T, c api.Config, ops ...api.Op) *mutator.Mutator {
	t.Helper()
	m := made(t, c)
	for _, o := range ops {
		if r := m.Do(o); r.Err != api.OK || len(r.Cycles) != 0 {
			t.Fatalf("%+v: error %d, cycles %v", o, r.Err, r.Cycles)
		}
	}
	return m
}

// The operations, as literals that are easy to read.
func push(thread, n int) api.Op { return api.Op{Kind: api.OpPush, Thread: thread, A: n} }
func pop(thread int) api.Op     { return api.Op{Kind: api.OpPop, Thread: thread} }
func alloc(thread, slot, kind, ptrs, raws, site int) api.Op {
	return api.Op{Kind: api.OpAlloc, Thread: thread, A: slot, B: kind, C: ptrs, D: raws, E: site}
}
func load(thread, dst, src, field int) api.Op {
	return api.Op{Kind: api.OpLoad, Thread: thread, A: dst, B: src, C: field}
}
func store(thread, dst, field, src int) api.Op {
	return api.Op{Kind: api.OpStore, Thread: thread, A: dst, B: field, C: src}
}
func get(thread, src, field int) api.Op {
	return api.Op{Kind: api.OpGet, Thread: thread, A: src, B: field}
}
func put(thread, dst, field int, w uint64) api.Op {
	return api.Op{Kind: api.OpPut, Thread: thread, A: dst, B: field, Word: w}
}
func copied(thread, dst, src int) api.Op {
	return api.Op{Kind: api.OpCopy, Thread: thread, A: dst, B: src}
}
func cleared(thread, slot int) api.Op { return api.Op{Kind: api.OpClear, Thread: thread, A: slot} }
func same(thread, a, b int) api.Op    { return api.Op{Kind: api.OpSame, Thread: thread, A: a, B: b} }
func hash(thread, slot int) api.Op    { return api.Op{Kind: api.OpHash, Thread: thread, A: slot} }
func shape(thread, slot int) api.Op   { return api.Op{Kind: api.OpShape, Thread: thread, A: slot} }
func opened(thread, slot int) api.Op  { return api.Op{Kind: api.OpOpen, Thread: thread, A: slot} }
func fetch(thread, dst, handle int) api.Op {
	return api.Op{Kind: api.OpFetch, Thread: thread, A: dst, B: handle}
}
func closing(handle int) api.Op        { return api.Op{Kind: api.OpClose, A: handle} }
func take(thread, dst int) api.Op      { return api.Op{Kind: api.OpTake, Thread: thread, A: dst} }
func minor() api.Op                    { return api.Op{Kind: api.OpMinor} }
func promote() api.Op                  { return api.Op{Kind: api.OpAll} }
func major() api.Op                    { return api.Op{Kind: api.OpMajor} }
func counted() api.Op                  { return api.Op{Kind: api.OpCensus} }
func audit() api.Op                    { return api.Op{Kind: api.OpAudit} }
func sites() api.Op                    { return api.Op{Kind: api.OpSites} }
func dump() api.Op                     { return api.Op{Kind: api.OpDump} }
func retained(thread, slot int) api.Op { return api.Op{Kind: api.OpRetained, Thread: thread, A: slot} }
func path(thread, slot int) api.Op     { return api.Op{Kind: api.OpPath, Thread: thread, A: slot} }

// The replies that have one field.
func word(w uint64) api.Reply         { return api.Reply{Word: w} }
func number(n int) api.Reply          { return api.Reply{Num: n} }
func cycled(cycles ...int) api.Reply  { return api.Reply{Cycles: cycles} }
func refused(e api.Errno) api.Reply   { return api.Reply{Err: e} }
func pathed(serials ...int) api.Reply { return api.Reply{Path: uints(serials)} }

// questions: the kinds that P19.3 names.
var questions = []int{api.OpGet, api.OpSame, api.OpHash, api.OpShape, api.OpCensus, api.OpAudit, api.OpSites, api.OpDump, api.OpRetained, api.OpPath}

func isQuestion(kind int) bool { return slices.Contains(questions, kind) }

func ran(cycles []int, cycle int) bool { return slices.Contains(cycles, cycle) }

func uints(list []int) []uint64 {
	var l []uint64
	for _, n := range list {
		l = append(l, uint64(n))
	}
	return l
}

func want(t *testing.T, what string, got, want any) {
	t.Helper()
	if g, w := fmt.Sprintf("%+v", got), fmt.Sprintf("%+v", want); g != w {
		t.Errorf("%s: %.1000s, want %.1000s", what, g, w)
	}
}

// does holds an operation to its whole reply.
func does(t *testing.T, promise string, m *mutator.Mutator, o api.Op, reply api.Reply) {
	t.Helper()
	want(t, fmt.Sprintf("%s: %+v", promise, o), m.Do(o), reply)
}

// step: an operation, and its whole reply.
type step struct {
	o api.Op
	r api.Reply
}

// goes holds operations behind one another to their replies.
func goes(t *testing.T, promise string, m *mutator.Mutator, steps ...step) {
	t.Helper()
	for _, s := range steps {
		does(t, promise, m, s.o, s.r)
	}
}

// fails holds an operation to its error, and to changing nothing.
func fails(t *testing.T, promise string, m *mutator.Mutator, o api.Op, e api.Errno) {
	t.Helper()
	was := state(m)
	does(t, promise, m, o, refused(e))
	want(t, promise+": behind the error", state(m), was)
}

// state: all that questions without operands tell of a mutator: its slots, handles, registry, queue and known objects are in the image.
func state(m *mutator.Mutator) string {
	return fmt.Sprintf("%v %+v %v %x", m.Do(counted()).Census, m.Do(audit()).Audit, m.Do(sites()).Sites, m.Do(dump()).Bytes)
}

// dice: numbers that look like chance and are the same at every run.
type dice uint64

func (d *dice) word() uint64 {
	*d += 0x9e3779b97f4a7c15
	x := uint64(*d)
	x = (x ^ x>>30) * 0xbf58476d1ce4e5b9
	x = (x ^ x>>27) * 0x94d049bb133111eb
	return x ^ x>>31
}

func (d *dice) below(n int) int { return int(d.word() % uint64(n)) }

func (d *dice) of(list ...int) int { return list[d.below(len(list))] }
