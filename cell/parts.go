package cell

// What the two lowest bits of a word tell.
const (
	tagNone = iota
	tagHead
	tagForward
	tagFiller
)

// tagBits are what the tag takes of a word of any form.
const tagBits = 2

// The parts of a header's first word, from the lowest bits on.
const (
	partTag = iota
	partKind
	partHeld
	partAge
	partSite
	partPtrs
	partRaws
	partRest
	parts
)

// begins has the first bit of each part: a part ends where the next one begins.
var begins = [parts + 1]int{
	partTag:  0,
	partKind: tagBits,
	partHeld: 5,
	partAge:  6,
	partSite: 10,
	partPtrs: 18,
	partRaws: 30,
	partRest: 46,
	parts:    64,
}

// lay tells a word that has n in a part and is 0 elsewhere; n must not be wider than the part.
func lay(part, n int) uint64 { return uint64(n) << begins[part] }

// read tells what stands in a part of a word.
func read(meta uint64, part int) int {
	wide := begins[part+1] - begins[part]
	return int(meta >> begins[part] & (1<<wide - 1))
}
