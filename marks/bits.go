package marks

import (
	"iter"
	"math/bits"
)

// wide is how many bits stand in a word of bits.
const wide = 64

// halfByte has how many bits of each half byte are set.
var halfByte = [16]int{0, 1, 1, 2, 1, 2, 2, 3, 1, 2, 2, 3, 2, 3, 3, 4}

// ones tells how many bits of w are set.
func ones(w uint64) int {
	n := 0
	for ; w != 0; w >>= 4 {
		n += halfByte[w&15]
	}
	return n
}

// place tells where the set bit of w stands below which nth others are; there must be one.
func place(w uint64, nth int) int {
	for range nth {
		w &= w - 1
	}
	return bits.TrailingZeros64(w)
}

// mask tells a word whose bits from one up to ahead of another are set.
func mask(from, behind int) uint64 {
	return ^uint64(0) << from & (^uint64(0) >> (wide - behind))
}

// pieces cuts a stretch of bits at the words in which they stand: the number of each word, and a mask of what of it is the stretch's.
func pieces(from, behind int) iter.Seq2[int, uint64] {
	return func(yield func(int, uint64) bool) {
		for at := from; at < behind; {
			i := at / wide
			first, end := i*wide, min(behind, (i+1)*wide)
			if !yield(i, mask(at-first, end-first)) {
				return
			}
			at = end
		}
	}
}

// seek tells the first bit of a stretch that is set, or isn't, if flip has all bits; behind, if there is none.
func seek(list []uint64, from, behind int, flip uint64) int {
	for i, piece := range pieces(from, behind) {
		if w := (list[i] ^ flip) & piece; w != 0 {
			return i*wide + bits.TrailingZeros64(w)
		}
	}
	return behind
}
