package ledger_test

import (
	"encoding/binary"
	"fmt"
	"hash/fnv"
	"slices"
	"testing"

	"midden/api"
	"midden/ledger"
	"midden/mutator"
)

const (
	least    = -1 << 63
	greatest = 1<<63 - 1
	lastWord = 1<<64 - 1
	lastOp   = 1 << 40 // P21.6's bounds, by their numbers
	lastSize = 1 << 20
	mostEver = 1 << 20
)

// odd are numbers that no bound of the chapter lets through.
var odd = []int{least, least + 1, -1 << 40, -1 << 32, -2, -1, 1 << 41, 1 << 62, greatest - 1, greatest}

// small is the configuration of the chapter's examples.
func small() api.Config {
	return api.Config{Eden: 64, Survivor: 64, Tenured: 100, Large: 64, Floor: 50, Num: 2, Den: 1, Target: 50, MaxAge: 2, Threads: 1, Slots: 8, Handles: 2, Workers: 1}
}

func made(t *testing.T, c api.Config) *ledger.Ledger {
	t.Helper()
	l, e := ledger.New(c)
	if l == nil || e != api.OK {
		t.Fatalf("P21.1: New(%+v): error %d", c, e)
	}
	return l
}

// alone makes the mutator that isn't watched.
func alone(t *testing.T, c api.Config) *mutator.Mutator {
	t.Helper()
	m, e := mutator.New(c)
	if m == nil || e != api.OK {
		t.Fatalf("P19.1: New(%+v): error %d", c, e)
	}
	return m
}

// did makes a ledger of small behind some operations, whatever they are replied.
func did(t *testing.T, ops ...api.Op) *ledger.Ledger {
	t.Helper()
	l := made(t, small())
	for _, o := range ops {
		l.Do(o)
	}
	return l
}

// The operations, of thread 0. Objects have the kind Plain, if nothing is said, and a pointer field.
func op(kind int, operands ...int) api.Op {
	all := append(operands, make([]int, 5)...)
	return api.Op{Kind: kind, A: all[0], B: all[1], C: all[2], D: all[3], E: all[4]}
}
func push(n int) api.Op            { return op(api.OpPush, n) }
func alloc(slot, words int) api.Op { return op(api.OpAlloc, slot, api.Plain, 1, words-3) }
func cleared(slot int) api.Op      { return op(api.OpClear, slot) }

var minor, promote, major, audit = op(api.OpMinor), op(api.OpAll), op(api.OpMajor), op(api.OpAudit)

// first are the operations of the chapter's first example.
func first() []api.Op {
	return []api.Op{push(3), alloc(0, 11), alloc(1, 11), alloc(1, 11), alloc(1, 11), alloc(1, 11), alloc(1, 11)}
}

// Events as literals that are easy to read.
func sizes(young, tenured, live, fillers int) api.Sizes {
	return api.Sizes{Young: young, Tenured: tenured, Live: live, Fillers: fillers}
}

func event(n int, before, after api.Sizes, cycles ...int) api.Event {
	return api.Event{Op: n, Cycles: cycles, Before: before, After: after}
}

func failed(e api.Event) api.Event {
	e.Failed = true
	return e
}

// plain is an event that may be, of an operation.
func plain(n int) api.Event { return event(n, api.Sizes{}, api.Sizes{}, api.CycleMinor) }

// some are events with something of everything: one cycle and eight of them, sizes of all lengths, Ops that rise by one and by much.
func some() []api.Event {
	return []api.Event{
		event(0, sizes(0, 0, 0, 0), sizes(lastSize, lastSize, lastSize, lastSize), 1),
		failed(event(1, sizes(127, 128, 16383, 16384), sizes(5, 6, 7, 8), 3, 2, 1, 1, 2, 3, 3, 1)),
		event(300, sizes(lastSize, lastSize, lastSize, lastSize), sizes(0, 0, 0, 0), 2, 3),
		failed(event(lastOp, sizes(1, 2, 3, 4), sizes(200, 300, 400, 500), 3)),
	}
}

// ran tells whether cycles hold one.
func ran(cycles []int, cycle int) bool { return slices.Contains(cycles, cycle) }

// figure: a number of a log, with the least and the greatest that it may be where the ones ahead of it are as they are.
type figure struct {
	n           uint64
	least, most uint64
	none        bool // no number may stand there
}

// figures tells the numbers of a list of events in the order of P21.7.
func figures(events []api.Event) []figure {
	l := []figure{{n: uint64(len(events)), most: mostEver}}
	ahead := -1
	for _, e := range events {
		l = append(l, figure{n: uint64(e.Op - 1 - ahead), most: uint64(lastOp - 1 - ahead), none: ahead == lastOp})
		ahead = e.Op
		l = append(l, figure{n: uint64(len(e.Cycles)), least: 1, most: 8})
		for _, c := range e.Cycles {
			l = append(l, figure{n: uint64(c), least: 1, most: 3})
		}
		b, a := e.Before, e.After
		for _, n := range []int{b.Young, b.Tenured, b.Live, b.Fillers, a.Young, a.Tenured, a.Live, a.Fillers} {
			l = append(l, figure{n: uint64(n), most: lastSize})
		}
		last := figure{most: 1}
		if e.Failed {
			last.n = 1
		}
		l = append(l, last)
	}
	return l
}

// digits tells a number's bytes.
func digits(n uint64) []byte { return binary.AppendUvarint(nil, n) }

// open tells a log's bytes without the checksum.
func open(list []figure) []byte {
	b := []byte{0x4d, 0x4c, 0x47, 0x31}
	for _, f := range list {
		b = append(b, digits(f.n)...)
	}
	return b
}

// whole tells bytes with their checksum behind.
func whole(b []byte) []byte {
	sum := fnv.New32a()
	sum.Write(b)
	return binary.LittleEndian.AppendUint32(slices.Clone(b), sum.Sum32())
}

// asked tells what Write is to answer of events that may be.
func asked(events []api.Event) []byte { return whole(open(figures(events))) }

// writes holds Write of events to its bytes.
func writes(t *testing.T, what string, events []api.Event) {
	t.Helper()
	b, e := ledger.Write(events)
	if e != api.OK || !slices.Equal(b, asked(events)) {
		t.Errorf("P21.7: %s: % x, error %d, want % x", what, b, e, asked(events))
	}
}

// declines holds Write of events to its error.
func declines(t *testing.T, what string, events []api.Event) {
	t.Helper()
	if b, e := ledger.Write(events); b != nil || e != api.ErrLedgerEvent {
		t.Errorf("P21.6, P21.7: %s: % x, error %d", what, b, e)
	}
}

// reads holds Read of bytes to events.
func reads(t *testing.T, what string, b []byte, events []api.Event) {
	t.Helper()
	got, place, e := ledger.Read(b)
	if place != 0 || e != api.OK {
		t.Errorf("P21.8: %s: Read(% x): error %d at %d", what, b, e, place)
	}
	want(t, "P21.8: "+what, got, events)
}

// refuses holds Read of bytes to an error and its place.
func refuses(t *testing.T, what string, b []byte, at int, why api.Errno) {
	t.Helper()
	if events, place, e := ledger.Read(b); events != nil || place != at || e != why {
		t.Errorf("P21.8: %s: Read(% x): %+v, error %d at %d, want %d at %d", what, b, events, e, place, why, at)
	}
}

func want(t *testing.T, what string, got, want any) {
	t.Helper()
	if g, w := fmt.Sprintf("%+v", got), fmt.Sprintf("%+v", want); g != w {
		t.Errorf("%s: %.1000s, want %.1000s", what, g, w)
	}
}

// dice: numbers that look like chance and are the same at every run.
type dice uint64

func (d *dice) word() uint64 {
	*d += 0x9e3779b97f4a7c15
	x := uint64(*d)
	x = (x ^ x>>30) * 0xbf58476d1ce4e5b9
	x = (x ^ x>>27) * 0x94d049bb133111eb
	return x ^ x>>31
}

func (d *dice) below(n int) int { return int(d.word() % uint64(n)) }

func (d *dice) of(list ...int) int { return list[d.below(len(list))] }
