package ledger_test

import (
	"bytes"
	"fmt"
	"math/big"
	"slices"
	"testing"

	"midden/api"
	"midden/ledger"
)

func TestWriteAndRead(t *testing.T) {
	events := some()
	writes(t, "something of everything", events)
	reads(t, "something of everything", asked(events), events)
	for n := range events {
		writes(t, "some of them", events[n:])
		reads(t, "some of them", asked(events[n:]), events[n:])
	}
}

// TestFirstBytes: the fault is at the first of the four that is another one, however many there are.
func TestFirstBytes(t *testing.T) {
	head := []byte{0x4d, 0x4c, 0x47, 0x31}
	for n := range 5 {
		refuses(t, "no more than the first bytes", head[:n], n, api.ErrLedgerShort)
	}
	for i := range 4 {
		for change := 1; change < 256; change++ {
			b := asked(some())
			b[i] ^= byte(change)
			refuses(t, "another byte", b, i, api.ErrLedgerForm)
			refuses(t, "another byte, and no more", b[:i+1], i, api.ErrLedgerForm)
			if i < 3 {
				b[i+1]++
				refuses(t, "two other bytes", b, i, api.ErrLedgerForm)
			}
		}
	}
	for _, other := range []string{"MDI1", "MLG2", "mlg1", "1GLM", "\x00\x00\x00\x00", "XLG1"} {
		at := 0
		for other[at] == head[at] {
			at++
		}
		refuses(t, "another head", whole([]byte(other+"\x00")), at, api.ErrLedgerForm)
	}
}

// TestCut: cut off anywhere, they are too short.
func TestCut(t *testing.T) {
	for _, events := range [][]api.Event{nil, {plain(0)}, some()} {
		b := asked(events)
		for n := range b {
			refuses(t, "cut", b[:n], n, api.ErrLedgerShort)
		}
	}
}

// spoilt: bytes that stand in the place of one number, and the fault of that.
type spoilt struct {
	b    []byte
	what string
}

// bad tells bytes that are no number.
func bad() []spoilt {
	list := []spoilt{
		{bytes.Repeat([]byte{0x80}, 10), "ten groups of 0 that go on"},
		{bytes.Repeat([]byte{0xff}, 10), "ten full groups that go on"},
		{bytes.Repeat([]byte{0x81}, 10), "ten groups of 1 that go on"},
		{bytes.Repeat([]byte{0xff}, 11), "eleven groups"},
		{append(bytes.Repeat([]byte{0xff}, 9), 0x02), "above 2^64"},
		{append(bytes.Repeat([]byte{0x80}, 9), 0x02), "2^64"},
		{append(bytes.Repeat([]byte{0x80}, 9), 0x03), "2^64 and 2^63"},
		{append(bytes.Repeat([]byte{0x80}, 9), 0x7f), "a full tenth group"},
	}
	for size := 2; size <= 10; size++ {
		list = append(list, spoilt{append(bytes.Repeat([]byte{0x81}, size-1), 0), fmt.Sprint(size, " groups, the last of them 0")})
		list = append(list, spoilt{append(bytes.Repeat([]byte{0x80}, size-1), 0), fmt.Sprint(size, " groups of 0")})
	}
	return list
}

// TestEachNumber spoils each number of a log in each way: the fault is told at its first byte.
func TestEachNumber(t *testing.T) {
	list := figures(some())
	for i, f := range list {
		ahead, behind := open(list[:i]), open(list[i+1:])[4:]
		laid := func(b []byte) []byte { return whole(slices.Concat(ahead, b, behind)) }
		for _, x := range bad() {
			refuses(t, fmt.Sprint("number ", i, ": ", x.what), laid(x.b), len(ahead), api.ErrLedgerForm)
			// What follows doesn't count: nothing at all, or another fault.
			refuses(t, fmt.Sprint("number ", i, ": ", x.what, ", the last one"), slices.Concat(ahead, x.b), len(ahead), api.ErrLedgerForm)
			refuses(t, fmt.Sprint("number ", i, ": ", x.what, ", and another fault"), slices.Concat(ahead, x.b, []byte{0x80, 0}), len(ahead), api.ErrLedgerForm)
		}
		over := []uint64{f.most + 1, f.most + 2, 1 << 41, 1 << 62, 1<<63 - 1, 1 << 63, 1<<63 + 1, lastWord - 1, lastWord}
		if f.least > 0 {
			over = append(over, f.least-1)
		}
		for _, n := range over {
			refuses(t, fmt.Sprint("number ", i, " is ", n), laid(digits(n)), len(ahead), api.ErrLedgerForm)
			refuses(t, fmt.Sprint("number ", i, " is ", n, ", the last one"), slices.Concat(ahead, digits(n)), len(ahead), api.ErrLedgerForm)
			refuses(t, fmt.Sprint("number ", i, " is ", n, ", and another fault"), slices.Concat(ahead, digits(n), []byte{0x80, 0}), len(ahead), api.ErrLedgerForm)
		}
		for _, n := range []uint64{f.least, f.most} {
			b := slices.Concat(ahead, digits(n))
			refuses(t, fmt.Sprint("number ", i, " is ", n, ", which may be"), b, len(b), api.ErrLedgerShort)
		}
		// The bytes end ahead of the number, and within numbers of all lengths, those too that may not be.
		refuses(t, "ahead of a number", ahead, len(ahead), api.ErrLedgerShort)
		for size := 1; size < 10; size++ {
			for _, x := range []byte{0x80, 0xff} {
				b := append(slices.Clone(ahead), bytes.Repeat([]byte{x}, size)...)
				refuses(t, "within a number", b, len(b), api.ErrLedgerShort)
			}
		}
	}
}

// TestOpsBehind: the sum with the Op ahead counts, not the number alone.
func TestOpsBehind(t *testing.T) {
	for _, x := range []struct {
		ops  []uint64 // as they stand in the log
		last bool     // the last one may be
	}{
		{[]uint64{lastOp}, true},
		{[]uint64{lastOp + 1}, false},
		{[]uint64{lastOp, 0}, false},
		{[]uint64{lastOp, lastWord}, false},
		{[]uint64{lastOp, lastWord - lastOp}, false},
		{[]uint64{lastOp - 1, 0}, true},
		{[]uint64{lastOp - 1, 1}, false},
		{[]uint64{0, lastOp - 1}, true},
		{[]uint64{0, lastOp}, false},
		{[]uint64{5, lastOp - 6}, true},
		{[]uint64{5, lastOp - 5}, false},
		{[]uint64{5, lastWord - 5}, false},
		{[]uint64{5, lastWord - 4}, false},
		{[]uint64{5, 1<<63 - 6}, false},
		{[]uint64{5, 1<<63 - 5}, false},
		{[]uint64{0, 0, 0, 0, lastOp - 4}, true},
		{[]uint64{0, 0, 0, 0, lastOp - 3}, false},
	} {
		b := append([]byte{0x4d, 0x4c, 0x47, 0x31}, byte(len(x.ops)))
		at, sum := 0, -1
		var events []api.Event
		for _, n := range x.ops {
			at, sum = len(b), sum+1+int(n)
			b = slices.Concat(b, digits(n), []byte{1, 1, 0, 0, 0, 0, 0, 0, 0, 0, 0})
			events = append(events, plain(sum))
		}
		if x.last {
			reads(t, fmt.Sprint("the Ops ", x.ops), whole(b), events)
		} else {
			refuses(t, fmt.Sprint("the Ops ", x.ops), whole(b), at, api.ErrLedgerForm)
		}
	}
}

func TestChecksum(t *testing.T) {
	for _, events := range [][]api.Event{nil, {plain(3)}, some()} {
		b := asked(events)
		place := len(b) - 4
		for i := place; i < len(b); i++ {
			for change := 1; change < 256; change++ {
				other := slices.Clone(b)
				other[i] ^= byte(change)
				refuses(t, "another checksum", other, place, api.ErrLedgerSum)
				refuses(t, "another checksum, and more", append(other, 0), place, api.ErrLedgerSum)
				refuses(t, "another checksum, and too short", other[:len(b)-1], len(b)-1, api.ErrLedgerShort)
			}
		}
		slices.Reverse(b[place:])
		refuses(t, "the highest byte first", b, place, api.ErrLedgerSum)
	}
}

func TestMore(t *testing.T) {
	for _, events := range [][]api.Event{nil, {plain(3)}, some()} {
		b := asked(events)
		for _, more := range [][]byte{{0}, {0x80}, {1, 2, 3, 4, 5}, b, whole(b)[len(b):]} {
			refuses(t, "more", slices.Concat(b, more), len(b), api.ErrLedgerMore)
		}
	}
}

// reading goes through bytes as P21.8 says, one number at a time: the model of Read.
type reading struct {
	b     []byte
	at    int
	place int
	why   api.Errno
}

func (r *reading) fails(place int, why api.Errno) bool {
	if r.why == api.OK {
		r.place, r.why = place, why
	}
	return false
}

// number tells the next one, and whether there is one from least to most.
func (r *reading) number(least, most int) (int, bool) {
	n, left := new(big.Int), r.b[r.at:]
	size := slices.IndexFunc(left, func(x byte) bool { return x < 0x80 }) + 1
	switch {
	case size == 0 && len(left) < 10:
		return 0, r.fails(len(r.b), api.ErrLedgerShort)
	case size == 0 || size > 10 || size > 1 && left[size-1] == 0:
		return 0, r.fails(r.at, api.ErrLedgerForm)
	}
	for i := size - 1; i >= 0; i-- {
		n.Lsh(n, 7).Add(n, big.NewInt(int64(left[i]&0x7f)))
	}
	if n.Cmp(big.NewInt(int64(least))) < 0 || n.Cmp(big.NewInt(int64(most))) > 0 {
		return 0, r.fails(r.at, api.ErrLedgerForm)
	}
	r.at += size
	return int(n.Int64()), true
}

func (r *reading) all() []api.Event {
	for i, x := range []byte("MLG1") {
		if i == len(r.b) {
			r.fails(i, api.ErrLedgerShort)
			return nil
		}
		if r.b[i] != x {
			r.fails(i, api.ErrLedgerForm)
			return nil
		}
	}
	r.at = 4
	var events []api.Event
	many, ok := r.number(0, mostEver)
	last := -1
	for i := 0; ok && i < many; i++ {
		var e api.Event
		if e, ok = r.one(last); ok {
			last, events = e.Op, append(events, e)
		}
	}
	if !ok || !r.sealed() {
		return nil
	}
	return events
}

func (r *reading) one(last int) (e api.Event, ok bool) {
	if e.Op, ok = r.number(0, lastOp-last-1); !ok {
		return
	}
	e.Op += last + 1
	many, ok := r.number(1, 8)
	for i := 0; ok && i < many; i++ {
		var c int
		c, ok = r.number(1, 3)
		e.Cycles = append(e.Cycles, c)
	}
	for _, s := range sizesOf(&e) {
		if ok {
			*s, ok = r.number(0, lastSize)
		}
	}
	if !ok {
		return
	}
	yes, ok := r.number(0, 1)
	e.Failed = yes == 1
	return e, ok
}

func (r *reading) sealed() bool {
	is := whole(r.b[:r.at])
	switch {
	case len(r.b) < len(is):
		return r.fails(len(r.b), api.ErrLedgerShort)
	case !bytes.HasPrefix(r.b, is):
		return r.fails(r.at, api.ErrLedgerSum)
	case len(r.b) > len(is):
		return r.fails(len(is), api.ErrLedgerMore)
	}
	return true
}

// judged holds Read to its model; what it takes is Write's.
func judged(t *testing.T, b []byte) api.Errno {
	t.Helper()
	m := reading{b: b}
	events := m.all()
	if m.why != api.OK {
		refuses(t, "as the model", b, m.place, m.why)
		return m.why
	}
	reads(t, "as the model", b, events)
	if again, e := ledger.Write(events); e != api.OK || !slices.Equal(again, b) {
		t.Errorf("P21.11: what Read takes Write gives again: % x, error %d, want % x", again, e, b)
	}
	return api.OK
}

// events tells a list that may be.
func (d *dice) events() []api.Event {
	var l []api.Event
	next := d.of(0, 0, 1, d.below(300), lastOp-40)
	for range d.below(6) {
		e := api.Event{Op: next, Failed: d.below(3) == 0}
		for range 1 + d.below(8)*d.below(2) {
			e.Cycles = append(e.Cycles, 1+d.below(3))
		}
		for _, s := range sizesOf(&e) {
			*s = d.of(0, d.below(128), d.below(20000), d.below(lastSize+1), lastSize)
		}
		l = append(l, e)
		next += 1 + d.below(6)*d.below(2)
	}
	return l
}

// TestRoundTrip: P21.11, for lists of the dice.
func TestRoundTrip(t *testing.T) {
	for seed := range 2000 {
		d := dice(seed)
		events := d.events()
		writes(t, "a list of the dice", events)
		b, _ := ledger.Write(events)
		reads(t, "P21.11: what Write gave", b, events)
		judged(t, b)
	}
}

// TestChangedBytes holds Read to its model for bytes in which a few are others, with the checksum that they then have, and without.
func TestChangedBytes(t *testing.T) {
	met := map[api.Errno]int{}
	for seed := range 30000 {
		d := dice(70000 + seed)
		b := asked(d.events())
		body := b[:len(b)-4]
		for range 1 + d.below(2) {
			i := d.below(len(body))
			switch d.below(4) {
			case 0:
				body[i] = byte(d.word())
			case 1:
				body[i] = byte(d.of(0, 1, 2, 3, 4, 8, 9, 0x7f, 0x80, 0xff))
			case 2:
				body = slices.Insert(slices.Clone(body), i, byte(d.of(0, 1, 3, 0x80, 0xff)))
			case 3:
				body = slices.Delete(slices.Clone(body), i, i+1)
			}
			if len(body) == 0 {
				break
			}
		}
		switch d.below(6) {
		case 0:
			b = body
		case 1:
			b = append(whole(body), byte(d.word()))
		case 2:
			b = append(slices.Clone(body), byte(d.word()), 2, 3, 4)
		default:
			b = whole(body)
		}
		met[judged(t, b)]++
		if t.Failed() {
			t.Fatalf("seed %d", seed)
		}
	}
	for _, e := range []api.Errno{api.OK, api.ErrLedgerShort, api.ErrLedgerForm, api.ErrLedgerMore, api.ErrLedgerSum} {
		if met[e] < 300 {
			t.Errorf("error %d only %d times: that says little", e, met[e])
		}
	}
}
