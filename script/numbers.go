package script

import (
	"strconv"
	"strings"
)

// mostNumber: no number is farther from 0. Words of 64 bits may be.
const mostNumber = 1 << 40

// number reads a number; false, if the text is none.
func number(text string) (int, bool) {
	digits, below := strings.CutPrefix(text, "-")
	n, ok := bits(digits)
	if !ok || n > mostNumber || below && n == 0 {
		return 0, false
	}
	if below {
		return -int(n), true
	}
	return int(n), true
}

// bits reads a word of 64 bits; false, if the text is none.
func bits(text string) (uint64, bool) {
	if len(text) > 1 && text[0] == '0' {
		return 0, false
	}
	n, err := strconv.ParseUint(text, 10, 64)
	if err != nil {
		return 0, false
	}
	return n, true
}
