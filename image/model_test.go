package image_test

import (
	"encoding/binary"
	"fmt"
	"slices"

	"midden/api"
)

// known tells of each object whether it is known, of numbers of all sizes: by going through all of them till nothing is added.
func known(g api.Graph) []bool {
	is := make([]bool, len(g.Objects))
	added := false
	meet := func(list []int) {
		for _, n := range list {
			if n >= 1 && n <= len(is) && !is[n-1] {
				is[n-1], added = true, true
			}
		}
	}
	for _, frames := range g.Slots {
		meet(slices.Concat(frames...))
	}
	meet(slices.Concat(g.Handles, g.Queue, g.Registry))
	for added {
		added = false
		for i, o := range g.Objects {
			if is[i] {
				meet(o.Ptrs)
			}
		}
	}
	return is
}

// mayBe: P16.1, sentence by sentence.
func mayBe(g api.Graph) bool {
	n := len(g.Objects)
	within := func(list []int, first int) bool {
		return len(list) == 0 || slices.Min(list) >= first && slices.Max(list) <= n
	}
	if g.Next < 1 || g.Next > maxSerial+1 || n > 0 && (g.Objects[0].Serial < 1 || g.Objects[n-1].Serial >= g.Next) {
		return false
	}
	var finals []int
	for i, o := range g.Objects {
		if i > 0 && o.Serial <= g.Objects[i-1].Serial || !headMayBe(o) || !within(o.Ptrs, 0) {
			return false
		}
		if o.Kind == api.Final {
			finals = append(finals, i+1)
		}
	}
	if len(g.Slots) < 1 || len(g.Slots) > 8 {
		return false
	}
	for _, frames := range g.Slots {
		slots := slices.Concat(frames...)
		if slices.ContainsFunc(frames, func(slots []int) bool { return len(slots) == 0 }) || len(slots) > 4096 || !within(slots, 0) {
			return false
		}
	}
	if len(g.Handles) > 1024 || !within(g.Handles, -1) || fmt.Sprint(g.Registry) != fmt.Sprint(finals) || !within(g.Queue, 1) {
		return false
	}
	for i, q := range g.Queue {
		if slices.Contains(g.Queue[:i], q) || slices.Contains(finals, q) {
			return false
		}
	}
	return !slices.Contains(known(g), false)
}

// headMayBe: P2.2.
func headMayBe(o api.Object) bool {
	ptrs, is := fewest[o.Kind]
	return is && len(o.Ptrs) >= ptrs && len(o.Ptrs) <= 4095 && len(o.Raws) <= 65535 && o.Site >= 0 && o.Site <= 255
}

// reading: P16.4, step by step; behind the first fault nothing is read.
type reading struct {
	b     []byte
	at    int
	place int
	err   api.Errno
}

func (r *reading) fault(place int, e api.Errno) {
	if r.err == api.OK {
		r.place, r.err = place, e
	}
}

func (r *reading) next(kind int) uint64 {
	if r.err != api.OK {
		return 0
	}
	rest := r.b[r.at:]
	n, size := binary.Uvarint(rest)
	switch {
	case size == 0 && len(rest) < 10:
		r.fault(len(r.b), api.ErrImageShort)
	case size <= 0, size > 1 && rest[size-1] == 0, kind != isRaw && n > maxSerial+1:
		r.fault(r.at, api.ErrImageForm)
	case kind == isCount && n > uint64(len(rest)-size):
		r.fault(len(r.b), api.ErrImageShort)
	default:
		r.at += size
		return n
	}
	return 0
}

func (r *reading) numbers() []int {
	var l []int
	for range r.next(isCount) {
		if n := r.next(isOther); r.err == api.OK {
			l = append(l, int(n))
		}
	}
	return l
}

// object reads one whose serial is told from the sum of those ahead; ok is false, if the sum is above MaxSerial.
func (r *reading) object(last uint64) (o api.Object, ok bool) {
	more := r.next(isOther)
	o = api.Object{Serial: last + more, Kind: int(r.next(isOther)), Site: int(r.next(isOther)), Ptrs: r.numbers()}
	for range r.next(isCount) {
		if w := r.next(isRaw); r.err == api.OK {
			o.Raws = append(o.Raws, w)
		}
	}
	return o, more <= maxSerial-last
}

// asIs reads what b says, with its fault; sums tells whether all serials' sums are at most MaxSerial.
func (r *reading) asIs() (g api.Graph, sums bool) {
	sums = true
	if len(r.b) < 4 {
		r.fault(len(r.b), api.ErrImageShort)
	} else if string(r.b[:4]) != "\x4d\x44\x49\x31" {
		r.fault(0, api.ErrImageForm)
	}
	r.at = 4
	g.Next = r.next(isOther)
	last := uint64(0)
	for range r.next(isCount) {
		o, ok := r.object(last)
		if ok && sums {
			last = o.Serial
		}
		sums = sums && ok
		if o.Kind == api.Final {
			g.Registry = append(g.Registry, len(g.Objects)+1)
		}
		g.Objects = append(g.Objects, o)
	}
	for range r.next(isCount) {
		var frames [][]int
		for range r.next(isCount) {
			frames = append(frames, r.numbers())
		}
		g.Slots = append(g.Slots, frames)
	}
	for _, n := range r.numbers() {
		g.Handles = append(g.Handles, n-1)
	}
	g.Queue = r.numbers()
	return g, sums
}

// modelRead: P16.4.
func modelRead(b []byte) (api.Graph, int, api.Errno) {
	r := &reading{b: b}
	g, sums := r.asIs()
	if r.err == api.OK && len(b) < r.at+4 {
		r.fault(len(b), api.ErrImageShort)
	}
	if r.err == api.OK && string(whole(b[:r.at])) != string(b[:r.at+4]) {
		r.fault(r.at, api.ErrImageSum)
	}
	if r.err == api.OK && len(b) > r.at+4 {
		r.fault(r.at+4, api.ErrImageMore)
	}
	if r.err == api.OK && (!sums || !mayBe(g)) {
		r.fault(0, api.ErrImageGraph)
	}
	if r.err != api.OK {
		return api.Graph{}, r.place, r.err
	}
	return g, 0, api.OK
}
