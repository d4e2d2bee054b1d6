package script

import (
	"strings"

	"midden/api"
)

// row: an operation's line. wants has a letter for each word behind the name.
type row struct {
	name   string
	kind   int
	thread bool
	wants  string
}

// The letters of wants. Those that aren't here are A to E: a number, into the field of that name.
const (
	kindB = 'K' // into B a number, or a kind's name
	nullB = 'b' // into B a number, or null
	nullC = 'c' // into C a number, or null
	bitsW = 'W' // into Word a word of 64 bits
)

var operations = [...]row{
	{"push", api.OpPush, true, "A"},
	{"pop", api.OpPop, true, ""},
	{"alloc", api.OpAlloc, true, "AKCDE"},
	{"load", api.OpLoad, true, "ABC"},
	{"store", api.OpStore, true, "ABc"},
	{"get", api.OpGet, true, "AB"},
	{"put", api.OpPut, true, "ABW"},
	{"copy", api.OpCopy, true, "Ab"},
	{"clear", api.OpClear, true, "A"},
	{"same", api.OpSame, true, "AB"},
	{"hash", api.OpHash, true, "A"},
	{"shape", api.OpShape, true, "A"},
	{"open", api.OpOpen, true, "A"},
	{"fetch", api.OpFetch, true, "AB"},
	{"close", api.OpClose, false, "A"},
	{"take", api.OpTake, true, "A"},
	{"minor", api.OpMinor, false, ""},
	{"all", api.OpAll, false, ""},
	{"major", api.OpMajor, false, ""},
	{"census", api.OpCensus, false, ""},
	{"audit", api.OpAudit, false, ""},
	{"sites", api.OpSites, false, ""},
	{"dump", api.OpDump, false, ""},
	{"retained", api.OpRetained, true, "A"},
	{"path", api.OpPath, true, "A"},
}

// rowNamed tells the operation of that name; false, if there is none.
func rowNamed(name string) (row, bool) {
	for _, r := range operations {
		if r.name == name {
			return r, true
		}
	}
	return row{}, false
}

// rowOf tells the operation of that kind; false, if there is none.
func rowOf(kind int) (row, bool) {
	for _, r := range operations {
		if r.kind == kind {
			return r, true
		}
	}
	return row{}, false
}

// names: words that stand for numbers, each with the letters where it may.
var names = [...]struct {
	letters, name string
	number        int
}{
	{"K", "plain", api.Plain},
	{"K", "weak", api.Weak},
	{"K", "ephemeron", api.Ephemeron},
	{"K", "final", api.Final},
	{"bc", "null", -1},
}

// numberNamed tells the number that a name stands for where the letter wants one; false, if there is none.
func numberNamed(letter rune, name string) (int, bool) {
	for _, x := range names {
		if x.name == name && strings.ContainsRune(x.letters, letter) {
			return x.number, true
		}
	}
	return 0, false
}

// nameOf tells the name of a number where the letter wants one; false, if there is none.
func nameOf(letter rune, number int) (string, bool) {
	for _, x := range names {
		if x.number == number && strings.ContainsRune(x.letters, letter) {
			return x.name, true
		}
	}
	return "", false
}

// field tells where a letter's number lies.
func field(o *api.Op, letter rune) *int {
	switch letter {
	case 'A':
		return &o.A
	case 'B', kindB, nullB:
		return &o.B
	case 'C', nullC:
		return &o.C
	case 'D':
		return &o.D
	}
	return &o.E
}

// settings: the words behind heap, each ahead of a number; the second one of ratio has none of its own.
var settings = [...]string{"eden", "survivor", "tenured", "large", "floor", "ratio", "", "target", "age", "threads", "slots", "handles", "buffer", "workers"}

// fields tells where the numbers of settings lie.
func fields(c *api.Config) []*int {
	return []*int{&c.Eden, &c.Survivor, &c.Tenured, &c.Large, &c.Floor, &c.Num, &c.Den, &c.Target, &c.MaxAge, &c.Threads, &c.Slots, &c.Handles, &c.Buffer, &c.Workers}
}
