package ledger_test

import (
	"testing"

	"midden/api"
)

func TestFirstExample(t *testing.T) {
	l := made(t, small())
	for i, o := range first() {
		r := api.Reply{Word: uint64(i)}
		if i == 6 {
			r.Cycles = []int{api.CycleMinor}
		}
		want(t, "P21.2: the reply", l.Do(o), r)
	}
	want(t, "P21.3: the event", l.Events(), []api.Event{event(6, sizes(55, 0, 22, 0), sizes(33, 0, 22, 0), api.CycleMinor)})
	want(t, "P21.5: the sum", l.Sum(), api.Cost{Ops: 7, Made: 6, Minors: 1, Freed: 33, Worst: 33, Total: 33})
	pauses(t, "the event's", l.Events()[0], 33)
	want(t, "P21.7: the bytes", l.Bytes(), whole([]byte{0x4d, 0x4c, 0x47, 0x31, 1, 6, 1, 1, 55, 0, 22, 0, 33, 0, 22, 0, 0}))
}

func TestSecondExample(t *testing.T) {
	nothing := []byte{0x4d, 0x4c, 0x47, 0x31, 0}
	want(t, "P21.7: of nothing", asked(nil), whole(nothing))
	writes(t, "of nothing", nil)
	writes(t, "of an empty list", []api.Event{})
	reads(t, "of nothing", whole(nothing), nil)
	refuses(t, "the first three bytes", nothing[:3], 3, api.ErrLedgerShort)
	refuses(t, "another third byte", []byte{0x4d, 0x4c, 0x48}, 2, api.ErrLedgerForm)
}
