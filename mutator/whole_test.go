package mutator_test

import (
	"bytes"
	"fmt"
	"maps"
	"slices"
	"testing"

	"midden/api"
	"midden/image"
	"midden/mutator"
)

// run: a mutator with its model, and what was done to both.
type run struct {
	generator
	it      *mutator.Mutator
	now     boundary
	base    int // the tenured words when the last operation that told a major cycle returned
	ops     []api.Op
	replies []api.Reply
	queued  map[uint64]int // how often a finalizer was queued
	seen    tally
}

// tally: what a test has met, so that it can't pass by meeting nothing.
type tally map[string]int

// begins makes a run with a frame for each thread.
func begins(t *testing.T, seed int) *run {
	t.Helper()
	d := dice(seed)
	return beginsIn(t, &d, d.config())
}

func beginsIn(t *testing.T, d *dice, c api.Config) *run {
	t.Helper()
	r := &run{generator: generator{d, newModel(c), d.of(1, 3, 10, 25)}, it: made(t, c), queued: map[uint64]int{}, seen: tally{}}
	r.now = r.boundary()
	r.holds(t)
	for thread := range c.Threads {
		r.does(t, push(thread, 2+d.below(3)))
	}
	return r
}

// boundary: what questions without operands tell between two operations.
type boundary struct {
	census [][]uint64
	audit  api.Audit
	sites  []api.Site
	bytes  []byte
}

func (r *run) boundary() boundary {
	return boundary{r.it.Do(counted()).Census, r.it.Do(audit()).Audit, r.it.Do(sites()).Sites, r.it.Do(dump()).Bytes}
}

// does does an operation to both, and holds the mutator to all promises of the whole.
func (r *run) does(t *testing.T, o api.Op) {
	t.Helper()
	ahead, kept, queue := r.now, r.m.words(r.m.kept()), slices.Clone(r.m.queue)
	got := r.it.Do(o)
	r.now = r.boundary()
	r.ops, r.replies = append(r.ops, o), append(r.replies, got)
	wanted := r.m.follow(o, got, ahead.census[3])
	r.asked(o, &wanted)
	want(t, fmt.Sprintf("P20.1, P20.8: %+v", o), got, wanted)
	r.cycles(t, o, got, ahead.audit)
	r.room(t, o, got, kept)
	r.counts(t, o, got, queue)
	if isQuestion(o.Kind) || got.Err != api.OK && got.Err != api.ErrHeapMemory {
		want(t, fmt.Sprintf("P19.3, P20.9: behind %+v, error %d", o, got.Err), r.now, ahead)
	}
	if ran(got.Cycles, api.CycleMajor) {
		r.base = r.now.audit.Tenured
	}
	r.holds(t)
	if t.Failed() {
		t.Fatalf("behind %+v, %+v", o, got)
	}
}

// asked lays into a reply what the model leaves out: what is told at the boundary, which holds looks at.
func (r *run) asked(o api.Op, wanted *api.Reply) {
	switch o.Kind {
	case api.OpCensus:
		wanted.Census = r.now.census
	case api.OpAudit:
		wanted.Audit = r.now.audit
	case api.OpSites:
		wanted.Sites = r.now.sites
	case api.OpDump:
		wanted.Bytes = r.now.bytes
	}
}

// cycles holds a reply's cycles to DOC.md's 'Which cycle comes when', as far as an audit ahead of it tells what is due.
func (r *run) cycles(t *testing.T, o api.Op, got api.Reply, a api.Audit) {
	t.Helper()
	c, n := r.m.c, 2+o.C+o.D
	room, guaranteed := c.Tenured-a.Tenured, a.Young <= c.Tenured-a.Tenured
	what, told := fmt.Sprintf("DOC.md, which cycle comes when: %+v", o), fmt.Sprint(got.Cycles)
	r.seen["cycles "+told]++
	switch {
	case o.Kind == api.OpMajor:
		want(t, what, told, "[3]")
	case o.Kind == api.OpMinor || o.Kind == api.OpAll:
		cycle := map[int]string{api.OpMinor: "1", api.OpAll: "2"}[o.Kind]
		want(t, what, slices.Contains(map[bool][]string{true: {"[" + cycle + "]", "[" + cycle + " 3]"}, false: {"[3]", "[3 " + cycle + "]"}}[guaranteed], told), true)
	case o.Kind != api.OpAlloc || got.Err != api.OK && got.Err != api.ErrHeapMemory:
		want(t, what, told, "[]")
	case n >= c.Large || n > c.Eden:
		due := map[bool]string{true: "[]", false: "[3]"}[n <= room && a.Tenured+n <= a.Limit]
		want(t, what, told, due)
	case guaranteed:
		want(t, what, slices.Contains([]string{"[]", "[1]", "[1 3]"}, told), true)
	default:
		want(t, what, slices.Contains([]string{"[]", "[3]", "[3 2]"}, told), true)
	}
}

// room: P20.3.
func (r *run) room(t *testing.T, o api.Op, got api.Reply, kept int) {
	t.Helper()
	n := 2 + o.C + o.D
	switch {
	case o.Kind != api.OpAlloc:
	case got.Err == api.OK && kept+n == r.m.c.Tenured:
		r.seen["the last word"]++
	case got.Err == api.ErrHeapMemory:
		r.seen["no room"]++
		if kept+n <= r.m.c.Tenured {
			t.Errorf("P20.3: %+v fails with %d words of Kept", o, kept)
		}
		want(t, fmt.Sprintf("P20.3: a major cycle is told: %+v: %v", o, got.Cycles), ran(got.Cycles, api.CycleMajor), true)
	}
}

// counts counts finalizers: P20.6.
func (r *run) counts(t *testing.T, o api.Op, got api.Reply, queue []uint64) {
	t.Helper()
	if o.Kind == api.OpTake && got.Err == api.OK {
		queue = queue[1:]
	}
	for _, s := range r.m.queue[len(queue):] {
		r.queued[s]++
		r.seen["queued"]++
		want(t, fmt.Sprintf("P20.6: %+v queues, with cycles %v", o, got.Cycles), ran(got.Cycles, api.CycleMajor), true)
		want(t, fmt.Sprintf("P20.6: how often %d was queued", s), r.queued[s], 1)
	}
}

// holds holds what is told at a boundary to the model.
func (r *run) holds(t *testing.T) {
	t.Helper()
	now, m := r.now, r.m
	want(t, "P20.2, P20.4: the census", slices.Sorted(slices.Values(slices.Concat(now.census...))), slices.Sorted(maps.Keys(m.things)))
	a, live, there := now.audit, m.words(m.reach(0)), m.words(m.all())
	want(t, "P20.5: live", a.Live, live)
	want(t, "P20.5: floating", a.Floating, there-live)
	want(t, "P15.2: the sums", a.Young+a.Tenured, a.Live+a.Floating+a.Fillers)
	want(t, "DOC.md: the limit", a.Limit, max(m.c.Floor, r.base*m.c.Num/m.c.Den))
	if a.Tenured > a.Limit {
		t.Errorf("P20.5: %d words are tenured, the limit is %d", a.Tenured, a.Limit)
	}
	if there > live {
		r.seen["floating"]++
	}
	want(t, "P20.1: sites", now.sites, m.sites())
	b, e := image.Write(m.graph())
	if e != api.OK || !bytes.Equal(now.bytes, b) {
		g, _, _ := image.Read(now.bytes)
		t.Errorf("P20.1, P20.6: the graph: %+v, want %+v", g, m.graph())
	}
}

// TestWhole: P20.1 to P20.6, P20.8, P20.9, of scripts of many operations over several configurations; and what Play tells of them.
func TestWhole(t *testing.T) {
	seen := tally{}
	for seed := range 120 {
		r := begins(t, seed)
		for range 150 {
			r.does(t, r.op())
		}
		r.played(t)
		for what, n := range r.seen {
			seen[what] += n
		}
	}
	for _, what := range []string{"cycles []", "cycles [1]", "cycles [2]", "cycles [3]", "cycles [1 3]", "cycles [2 3]", "cycles [3 1]", "cycles [3 2]", "no room", "the last word", "queued", "floating"} {
		if seen[what] < 5 {
			t.Errorf("%q was met %d times: %v", what, seen[what], seen)
		}
	}
}
