package ledger_test

import (
	"fmt"
	"slices"
	"testing"

	"midden/api"
	"midden/ledger"
)

// fill writes over a list, into the room behind it, and appends to it.
func fill[T any](list []T, x T) {
	list = list[:cap(list)]
	for i := range list {
		list[i] = x
	}
	_ = append(list, x)
}

// spoil writes over all lists of a reply.
func spoil(r api.Reply) {
	fill(r.Nums, -9)
	fill(r.Cycles, -9)
	fill(r.Bytes, 0xee)
	fill(r.Path, 1<<50)
	fill(r.Sites, api.Site{Site: -9})
	for _, list := range r.Census {
		fill(list, 1<<50)
	}
	fill(r.Census, nil)
}

// spoilEvents writes over events and what hangs on them.
func spoilEvents(events []api.Event) {
	for _, e := range events {
		fill(e.Cycles, -9)
	}
	fill(events, api.Event{Op: -9})
}

// TestAnswersAreNew: what a ledger answers may be written over and appended to; nothing of the ledger and no other answer, earlier or later, is touched.
func TestAnswersAreNew(t *testing.T) {
	for seed := range 25 {
		d := dice(3000 + seed)
		c, ops := d.script(150)
		spoiled, left := made(t, c), made(t, c)
		var events [][]api.Event
		var logs [][]byte
		var were []string
		for _, o := range ops {
			r := spoiled.Do(o)
			want(t, fmt.Sprintf("rule 3: %+v behind answers that were written over", o), r, left.Do(o))
			events, logs = append(events, spoiled.Events()), append(logs, spoiled.Bytes())
			were = append(were, fmt.Sprintf("%+v % x", events[len(events)-1], logs[len(logs)-1]))
			spoil(r)
			spoilEvents(spoiled.Events())
			fill(spoiled.Bytes(), 0xee)
			want(t, "rule 3: the ledger", all(spoiled), all(left))
		}
		for i := range events {
			want(t, "rule 3: an earlier answer", fmt.Sprintf("%+v % x", events[i], logs[i]), were[i])
		}
	}
}

// TestListsOfOneAnswer: no two events share their cycles' memory, those of a ledger and those that were read.
func TestListsOfOneAnswer(t *testing.T) {
	l := did(t, then([]api.Op{push(5)}, then(five(), promote, minor, major)...)...)
	read, _, _ := ledger.Read(asked(some()))
	for _, events := range [][]api.Event{l.Events(), read} {
		is := ""
		for i := range events {
			is += fmt.Sprint(append(slices.Clone(events[i].Cycles), 100+i))
			events[i].Cycles = append(events[i].Cycles, 100+i)
			fill(events[i].Cycles[len(events[i].Cycles):], 100+i)
		}
		got := ""
		for _, e := range events {
			got += fmt.Sprint(e.Cycles)
		}
		want(t, "rule 3: appended to", got, is)
	}
}

// TestWriteKeepsNothing: events that are handed in stay as they are, with the room behind them, and what becomes of them later changes nothing.
func TestWriteKeepsNothing(t *testing.T) {
	for _, wrong := range []bool{false, true} {
		room := append(some(), plain(7), plain(8))
		for i := range room {
			room[i].Cycles = append(room[i].Cycles, 77, 78)[:len(room[i].Cycles)]
		}
		if wrong {
			room[3].Op = 0
		}
		deep := func() string {
			told := ""
			for _, e := range room {
				told += fmt.Sprintf("%+v %v\n", e, e.Cycles[:len(e.Cycles)+2])
			}
			return told
		}
		was := deep()
		b, e := ledger.Write(room[:4])
		want(t, "P21.7", e == api.OK, !wrong)
		ledger.Pause(room[0])
		want(t, "rule 3: events that were handed in", deep(), was)
		spoilEvents(room)
		if !wrong {
			want(t, "rule 3: the bytes that were answered", b, asked(some()))
			fill(b, 0xee)
			writes(t, "behind bytes that were written over", some())
		}
	}
}

// TestReadKeepsNothing: bytes that are handed in stay as they are, with the room behind them; what becomes of them or of the events later changes nothing.
func TestReadKeepsNothing(t *testing.T) {
	b := asked(some())
	for _, more := range [][]byte{nil, {0}} {
		room := append(slices.Concat(b, more), 7, 8, 9)
		is := slices.Clone(room)
		events, _, e := ledger.Read(room[:len(room)-3])
		want(t, "P21.8", e == api.OK, more == nil)
		want(t, "rule 3: bytes that were handed in", room, is)
		again, _, _ := ledger.Read(room[:len(room)-3])
		clear(room)
		if e != api.OK {
			continue
		}
		want(t, "rule 3: events that were answered", events, some())
		spoilEvents(events)
		want(t, "rule 3: those of another answer", again, some())
		reads(t, "behind events that were written over", b, some())
	}
}
