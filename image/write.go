package image

import "midden/octets"

// magic is what the bytes of a graph begin with.
const magic = "MDI1"

// writer lays bytes, one part behind the other.
type writer struct {
	bytes []byte
}

func (w *writer) begin() { w.bytes = append(w.bytes, magic...) }

func (w *writer) write(p part) {
	switch x := p.(type) {
	case number:
		w.number(uint64(*x.at))
	case handle:
		w.number(uint64(*x.at + 1))
	case raw:
		w.number(*x.at)
	case serial:
		w.number(*x.at - x.ahead)
	case list:
		w.number(uint64(x.count))
		for i := range x.count {
			w.write(x.each(i))
		}
	case group:
		for _, y := range x {
			w.write(y)
		}
	}
}

func (w *writer) number(n uint64) { w.bytes = octets.Append(w.bytes, n) }

func (w *writer) end() {
	sum := octets.Checksum(w.bytes)
	w.bytes = append(w.bytes, sum[:]...)
}
