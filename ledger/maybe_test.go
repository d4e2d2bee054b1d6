package ledger_test

import (
	"fmt"
	"slices"
	"testing"

	"midden/api"
	"midden/ledger"
)

// edit: what is changed in an event.
type edit struct {
	what   string
	change func(e *api.Event)
}

// sizesOf points to the eight.
func sizesOf(e *api.Event) []*int {
	b, a := &e.Before, &e.After
	return []*int{&b.Young, &b.Tenured, &b.Live, &b.Fillers, &a.Young, &a.Tenured, &a.Live, &a.Fillers}
}

// wrongs tells each way in which an event may not be.
func wrongs() []edit {
	l := []edit{
		{"no cycles", func(e *api.Event) { e.Cycles = nil }},
		{"an empty list of cycles", func(e *api.Event) { e.Cycles = []int{} }},
		{"nine cycles", func(e *api.Event) { e.Cycles = slices.Repeat([]int{1}, 9) }},
		{"a thousand cycles", func(e *api.Event) { e.Cycles = slices.Repeat([]int{3}, 1000) }},
		{"an Op past the last one", func(e *api.Event) { e.Op = lastOp + 1 }},
	}
	for _, n := range odd {
		l = append(l, edit{fmt.Sprint("the Op ", n), func(e *api.Event) { e.Op = n }})
	}
	for _, n := range append([]int{0, 4}, odd...) {
		for i := range 3 {
			l = append(l, edit{fmt.Sprint("a cycle ", n), func(e *api.Event) {
				e.Cycles = []int{1, 3, 2}
				e.Cycles[i] = n
			}})
		}
	}
	for _, n := range append([]int{lastSize + 1}, odd...) {
		for i := range 8 {
			l = append(l, edit{fmt.Sprint("size ", i, " of ", n), func(e *api.Event) { *sizesOf(e)[i] = n }})
		}
	}
	return l
}

// rights tells the edges that lie within.
func rights() []edit {
	l := []edit{
		{"as it is", func(e *api.Event) {}},
		{"the first Op", func(e *api.Event) { e.Op = 0 }},
		{"the last Op", func(e *api.Event) { e.Op = lastOp }},
		{"one cycle", func(e *api.Event) { e.Cycles = []int{3} }},
		{"eight cycles", func(e *api.Event) { e.Cycles = []int{1, 2, 3, 3, 2, 1, 1, 1} }},
		{"it failed", func(e *api.Event) { e.Failed = true }},
		{"it failed without a major cycle", func(e *api.Event) { e.Failed, e.Cycles = true, []int{1} }},
	}
	for _, n := range []int{0, 1, lastSize - 1, lastSize} {
		for i := range 8 {
			l = append(l, edit{fmt.Sprint("size ", i, " of ", n), func(e *api.Event) { *sizesOf(e)[i] = n }})
		}
	}
	return l
}

// TestEventsThatMayBe: alone, and behind and ahead of others.
func TestEventsThatMayBe(t *testing.T) {
	for _, x := range rights() {
		e := event(5, sizes(40, 10, 3, 5), sizes(7, 15, 6, 9), 1, 3)
		x.change(&e)
		writes(t, x.what, []api.Event{e})
		if e.Op > 0 {
			writes(t, x.what, []api.Event{plain(0), e})
		}
		if e.Op < lastOp {
			writes(t, x.what, []api.Event{e, plain(lastOp)})
		}
	}
}

func TestEventsThatMayNotBe(t *testing.T) {
	for _, x := range wrongs() {
		e := event(5, sizes(40, 10, 3, 5), sizes(7, 15, 6, 9), 1, 3)
		x.change(&e)
		declines(t, x.what, []api.Event{e})
		declines(t, x.what+", the first of three", []api.Event{e, plain(6), plain(7)})
		declines(t, x.what+", the second of three", []api.Event{plain(3), e, plain(7)})
		declines(t, x.what+", the last of three", []api.Event{plain(3), plain(4), e})
	}
}

func TestListsThatMayNotBe(t *testing.T) {
	for _, ops := range [][]int{{0, 0}, {1, 0}, {5, 5}, {5, 4}, {lastOp, lastOp}, {lastOp, 0}, {0, 1, 1}, {0, 2, 1}, {1, 0, 2}, {3, 4, 5, 6, 6}} {
		var events []api.Event
		for _, n := range ops {
			events = append(events, plain(n))
		}
		declines(t, fmt.Sprint("the Ops ", ops), events)
	}
}

func TestListsThatMayBe(t *testing.T) {
	for _, ops := range [][]int{{}, {0}, {7}, {lastOp}, {0, 1}, {0, 1, 2, 3}, {4, 5, 7}, {0, lastOp}, {lastOp - 1, lastOp}, {126, 127, 255, 383, 512, 20000, 20001}} {
		var events []api.Event
		for _, n := range ops {
			events = append(events, plain(n))
		}
		writes(t, fmt.Sprint("the Ops ", ops), events)
		reads(t, fmt.Sprint("the Ops ", ops), asked(events), events)
	}
}

// TestMostEvents: as many as may be, and one more.
func TestMostEvents(t *testing.T) {
	events := make([]api.Event, mostEver+1)
	for i := range events {
		events[i] = plain(i)
	}
	declines(t, "one event too many", events)
	// Each of them has the Op right behind the one ahead, one minor cycle, and no sizes.
	asked := func(many int) []byte {
		return whole(slices.Concat(open(nil), digits(uint64(many)), slices.Repeat([]byte{0, 1, 1, 0, 0, 0, 0, 0, 0, 0, 0, 0}, many)))
	}
	b, e := ledger.Write(events[:mostEver])
	if e != api.OK || !slices.Equal(b, asked(mostEver)) {
		t.Fatalf("P21.6, P21.7: most events: %d bytes, error %d", len(b), e)
	}
	got, place, e := ledger.Read(b)
	if len(got) != mostEver || place != 0 || e != api.OK {
		t.Fatalf("P21.8: most events: %d of them, error %d at %d", len(got), e, place)
	}
	for i, x := range got {
		if x.Op != i || len(x.Cycles) != 1 || x.Cycles[0] != 1 || x.Before != x.After || x.After.Young != 0 || x.Failed {
			t.Fatalf("P21.8: event %d of many: %+v", i, x)
		}
	}
	if got, place, e := ledger.Read(asked(mostEver + 1)); got != nil || place != 4 || e != api.ErrLedgerForm {
		t.Errorf("P21.8: one event too many: %d events, error %d at %d", len(got), e, place)
	}
}
