package image

import (
	"midden/api"
	"midden/graph"
	"midden/octets"
)

// reader goes through bytes from the left, and gives up at the first fault.
type reader struct {
	bytes []byte
	at    int
}

// fault: why a reader gave up, and where.
type fault struct {
	place int
	why   api.Errno
}

func giveUp(place int, why api.Errno) { panic(fault{place, why}) }

func (r *reader) short() { giveUp(len(r.bytes), api.ErrImageShort) }

// caught tells the fault that a reader threw; none, if it threw nothing. What no reader throws isn't held back.
func caught(thrown any) fault {
	switch x := thrown.(type) {
	case nil:
		return fault{}
	case fault:
		return x
	}
	panic(thrown)
}

// graph reads the bytes from the first to the last.
func (r *reader) graph() api.Graph {
	var g api.Graph
	r.begin()
	r.read(partsOf(&g))
	r.end()
	g.Registry = graph.Finals(g.Objects)
	if e := Check(g); e != api.OK {
		giveUp(0, e)
	}
	return g
}

func (r *reader) begin() {
	if string(r.take(len(magic))) != magic {
		giveUp(0, api.ErrImageForm)
	}
}

// take tells the next n bytes.
func (r *reader) take(n int) []byte {
	if n > r.left() {
		r.short()
	}
	r.at += n
	return r.bytes[r.at-n : r.at]
}

func (r *reader) left() int { return len(r.bytes) - r.at }

func (r *reader) read(p part) {
	switch x := p.(type) {
	case number:
		*x.at = int(r.bounded())
	case handle:
		*x.at = int(r.bounded()) - 1
	case raw:
		*x.at = r.number()
	case serial:
		*x.at = x.ahead + r.bounded() // a sum that wraps round is below the one ahead: no graph may have it
	case list:
		for i := range r.count() {
			x.grow()
			r.read(x.each(i))
		}
	case group:
		for _, y := range x {
			r.read(y)
		}
	}
}

// number reads one of any size.
func (r *reader) number() uint64 {
	n, size, how := octets.Number(r.bytes[r.at:])
	switch how {
	case octets.Short:
		r.short()
	case octets.Wrong:
		giveUp(r.at, api.ErrImageForm)
	}
	r.at += size
	return n
}

// bounded reads a number that is no raw field.
func (r *reader) bounded() uint64 {
	place := r.at
	n := r.number()
	if n > api.MaxSerial+1 {
		giveUp(place, api.ErrImageForm)
	}
	return n
}

// count reads how many there are; each of them takes a byte or more.
func (r *reader) count() int {
	n := r.bounded()
	if n > uint64(r.left()) {
		r.short()
	}
	return int(n)
}

// end reads the checksum, behind which there is nothing.
func (r *reader) end() {
	place := r.at
	sum := octets.Checksum(r.bytes[:place])
	if string(r.take(len(sum))) != string(sum[:]) {
		giveUp(place, api.ErrImageSum)
	}
	if r.left() > 0 {
		giveUp(r.at, api.ErrImageMore)
	}
}
