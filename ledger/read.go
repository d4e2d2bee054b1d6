package ledger

import (
	"math"

	"midden/api"
	"midden/octets"
)

// Read reads a log: on an error the place.
func Read(b []byte) ([]api.Event, int, api.Errno) {
	r := reader{bytes: b}
	events := r.log()
	if r.why != api.OK {
		return nil, r.place, r.why
	}
	return events, 0, api.OK
}

// reader goes through bytes from the left. From its first fault on it reads nothing more: all numbers are 0 then.
type reader struct {
	bytes []byte
	at    int
	place int
	why   api.Errno
}

func (r *reader) fail(place int, why api.Errno) { r.place, r.why = place, why }

func (r *reader) log() []api.Event {
	var events []api.Event
	r.begin()
	ahead := -1
	for range r.number(0, maxEvents) {
		e := r.event(ahead)
		if r.why != api.OK {
			return nil
		}
		events = append(events, e)
		ahead = e.Op
	}
	r.end()
	return events
}

func (r *reader) begin() {
	for i := range len(magic) {
		if i == len(r.bytes) {
			r.fail(i, api.ErrLedgerShort)
			return
		}
		if r.bytes[i] != magic[i] {
			r.fail(i, api.ErrLedgerForm)
			return
		}
	}
	r.at = len(magic)
}

// number reads one that may be no less and no more than that.
func (r *reader) number(least, most int) int {
	if r.why != api.OK {
		return 0
	}
	n, size, how := octets.Number(r.bytes[r.at:])
	switch {
	case how == octets.Short:
		r.fail(len(r.bytes), api.ErrLedgerShort)
	case how == octets.Wrong || n > math.MaxInt || !within(int(n), least, most):
		r.fail(r.at, api.ErrLedgerForm)
	default:
		r.at += size
		return int(n)
	}
	return 0
}

// event reads one, behind the one whose Op is ahead.
func (r *reader) event(ahead int) api.Event {
	return api.Event{
		Op:     ahead + 1 + r.number(0, maxOp-ahead-1),
		Cycles: r.cycles(),
		Before: r.sizes(),
		After:  r.sizes(),
		Failed: r.number(0, 1) == 1,
	}
}

func (r *reader) cycles() []int {
	var cycles []int
	for range r.number(1, maxCycles) {
		cycles = append(cycles, r.number(api.CycleMinor, api.CycleMajor))
	}
	return cycles
}

func (r *reader) sizes() api.Sizes {
	return api.Sizes{Young: r.size(), Tenured: r.size(), Live: r.size(), Fillers: r.size()}
}

func (r *reader) size() int { return r.number(0, maxSize) }

// end reads the checksum, behind which there is nothing.
func (r *reader) end() {
	if r.why != api.OK {
		return
	}
	sum := octets.Checksum(r.bytes[:r.at])
	behind := r.at + len(sum)
	switch {
	case len(r.bytes) < behind:
		r.fail(len(r.bytes), api.ErrLedgerShort)
	case string(r.bytes[r.at:behind]) != string(sum[:]):
		r.fail(r.at, api.ErrLedgerSum)
	case len(r.bytes) > behind:
		r.fail(behind, api.ErrLedgerMore)
	}
}
