// Package octets: numbers and checksums as bytes (doc/16-image.md, P16.2). It is no layer: image and ledger have the same form of them, and neither's face has it.
package octets

// A number stands in groups of seven bits, a byte each; the top bit tells that another group follows. Ten groups hold a word.
const (
	wide   = 7
	top    = 1 << wide
	groups = 10
)

// How a number stands in its bytes.
const (
	Whole = iota
	Short // the bytes end within it
	Wrong // it isn't of the form
)

// Append lays a number behind bytes.
func Append(b []byte, n uint64) []byte {
	for n >= top {
		b = append(b, byte(n%top|top))
		n >>= wide
	}
	return append(b, byte(n))
}

// Number reads the one that bytes begin with: it and how many bytes it has (both 0, unless it is whole), and how it stands there.
func Number(b []byte) (n uint64, size, how int) {
	for i, x := range b {
		// A last group of 0 isn't needed; the tenth one, which must be the last, has one bit of the word.
		if i > 0 && x == 0 || i == groups-1 && x > 1 {
			return 0, 0, Wrong
		}
		n |= uint64(x%top) << (wide * i)
		if x < top {
			return n, i + 1, Whole
		}
	}
	return 0, 0, Short
}

// Checksum tells that of bytes, its lowest byte first.
func Checksum(b []byte) [4]byte {
	sum := uint32(2166136261)
	for _, x := range b {
		sum = (sum ^ uint32(x)) * 16777619
	}
	return [4]byte{byte(sum), byte(sum >> 8), byte(sum >> 16), byte(sum >> 24)}
}
