package octets_test

import (
	"bytes"
	"encoding/binary"
	"hash/fnv"
	"testing"

	"midden/octets"
)

// edges are the numbers around each bound of a group.
func edges() []uint64 {
	l := []uint64{0, 1, 1<<64 - 1}
	for i := range 64 {
		l = append(l, 1<<i-1, 1<<i, 1<<i+1)
	}
	return l
}

// TestNumbers: what is laid is read again, whatever stands behind it; what is cut is short.
func TestNumbers(t *testing.T) {
	for _, n := range edges() {
		b := octets.Append([]byte{7, 8}, n)
		if is := binary.AppendUvarint([]byte{7, 8}, n); !bytes.Equal(b, is) {
			t.Errorf("P16.2: %d: % x, want % x", n, b, is)
		}
		b = b[2:]
		for _, more := range [][]byte{nil, {0}, {0x80}, {0xff, 0xff}} {
			got, size, how := octets.Number(append(bytes.Clone(b), more...))
			if got != n || size != len(b) || how != octets.Whole {
				t.Errorf("P16.2: % x and % x: %d of %d bytes, %d", b, more, got, size, how)
			}
		}
		for i := range b {
			stands(t, b[:i], octets.Short)
		}
	}
}

func stands(t *testing.T, b []byte, as int) {
	t.Helper()
	if n, size, how := octets.Number(b); n != 0 || size != 0 || how != as {
		t.Errorf("P16.4: % x: %d of %d bytes, %d, want %d", b, n, size, how, as)
	}
}

// TestWrong: a group too many, ten that go on, and more than a word.
func TestWrong(t *testing.T) {
	for size := 1; size < 10; size++ {
		stands(t, append(bytes.Repeat([]byte{0x81}, size), 0), octets.Wrong)
		stands(t, append(bytes.Repeat([]byte{0x80}, size), 0, 1), octets.Wrong)
		stands(t, bytes.Repeat([]byte{0x80}, size), octets.Short)
	}
	for last := 2; last < 256; last++ {
		stands(t, append(bytes.Repeat([]byte{0xff}, 9), byte(last)), octets.Wrong)
		stands(t, append(bytes.Repeat([]byte{0x80}, 9), byte(last), 1), octets.Wrong)
	}
}

func TestChecksum(t *testing.T) {
	for _, text := range []string{"", "\x00", "MDI1", "MLG1\x00", "\xff\xfe\x80", "a longer text, of which the checksum wraps round many times"} {
		sum := fnv.New32a()
		sum.Write([]byte(text))
		if got := octets.Checksum([]byte(text)); binary.LittleEndian.Uint32(got[:]) != sum.Sum32() {
			t.Errorf("P16.2: %q: % x, want %x", text, got, sum.Sum32())
		}
	}
}
