package ledger

import (
	"midden/api"
	"midden/octets"
)

// magic is what the bytes of a log begin with.
const magic = "MLG1"

// Write tells the log of some events.
func Write(events []api.Event) ([]byte, api.Errno) {
	if !allMayBe(events) {
		return nil, api.ErrLedgerEvent
	}
	w := writer{[]byte(magic)}
	w.lay(len(events))
	ahead := -1
	for _, e := range events {
		w.event(e, ahead)
		ahead = e.Op
	}
	sum := octets.Checksum(w.bytes)
	return append(w.bytes, sum[:]...), api.OK
}

// writer lays numbers, one behind the other.
type writer struct {
	bytes []byte
}

func (w *writer) lay(numbers ...int) {
	for _, n := range numbers {
		w.bytes = octets.Append(w.bytes, uint64(n))
	}
}

// event lays one, behind the one whose Op is ahead.
func (w *writer) event(e api.Event, ahead int) {
	w.lay(e.Op-1-ahead, len(e.Cycles))
	w.lay(e.Cycles...)
	w.lay(sizesOf(e)...)
	w.lay(one(e.Failed))
}
