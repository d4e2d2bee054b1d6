package script_test

import (
	"errors"
	"fmt"
	"strings"
	"testing"

	"midden/api"
	"midden/script"
)

const (
	least    = -1 << 63
	greatest = 1<<63 - 1
	lastWord = 1<<64 - 1

	// By their numbers: the chapter's bounds hang on them.
	maxText   = 65536
	maxOps    = 4000
	maxRepeat = 1000
	maxNumber = 1 << 40
)

// head is the configuration of the chapter's examples.
const head = "heap eden 64 survivor 64 tenured 100 large 40 floor 30 ratio 2 1 target 50 age 3 threads 2 slots 16 handles 4 buffer 0 workers 1\n"

func config() api.Config {
	return api.Config{Eden: 64, Survivor: 64, Tenured: 100, Large: 40, Floor: 30, Num: 2, Den: 1, Target: 50, MaxAge: 3, Threads: 2, Slots: 16, Handles: 4, Buffer: 0, Workers: 1}
}

func want(t *testing.T, what string, got, want any) {
	t.Helper()
	if g, w := fmt.Sprint(got), fmt.Sprint(want); g != w {
		t.Errorf("%s: %.300s, want %.300s", what, g, w)
	}
}

// place: a fault, and where it stands; the zero place is none.
type place struct {
	line, at int
	e        api.Errno
}

// fault tells the fault of a text, and holds what Parse answers beside it to the chapter.
func fault(t *testing.T, text string) place {
	t.Helper()
	s, err := script.Parse(text)
	if err == nil {
		return place{}
	}
	if s.Config != (api.Config{}) || s.Ops != nil {
		t.Errorf("rule 4: %.300q: a script beside the error %v: %v", text, err, s)
	}
	m, ok := err.(*api.Misread)
	if !ok {
		t.Fatalf("P18.7: %.300q: an error that is no *api.Misread: %v", text, err)
	}
	e, ok := m.Err.(api.Errno)
	if !ok || !errors.Is(err, e) {
		t.Fatalf("P18.7: %.300q: a Misread without a number: %v", text, err)
	}
	return place{m.Line, m.At, e}
}

// faults holds the fault of a text to what it must be.
func faults(t *testing.T, what, text string, line, at int, e api.Errno) {
	t.Helper()
	if is := fault(t, text); is != (place{line, at, e}) {
		t.Errorf("%s: %.300q (%d bytes): %v, want %v", what, text, len(text), is, place{line, at, e})
	}
}

// parsed tells the operations of a text behind head that has no fault.
func parsed(t *testing.T, what, text string) []api.Op {
	t.Helper()
	s, err := script.Parse(head + text)
	if err != nil || s.Config != config() {
		t.Errorf("%s: %.300q: %v, %v", what, text, s.Config, err)
	}
	return s.Ops
}

// given: what Ops gives at once.
type given struct {
	line int
	op   api.Op
}

func ops(text string) []given {
	var l []given
	for line, o := range script.Ops(text) {
		l = append(l, given{line, o})
	}
	return l
}

// behind tells the operations of what Ops gives.
func behind(l []given) []api.Op {
	var list []api.Op
	for _, x := range l {
		list = append(list, x.op)
	}
	return list
}

// lines tells the lines of what Ops gives.
func lines(l []given) []int {
	var list []int
	for _, x := range l {
		list = append(list, x.line)
	}
	return list
}

// kindOf: a line of the chapter's table, as the table writes it, with A to E for numbers.
type kindOf struct {
	line   string
	kind   int
	thread bool
}

func table() []kindOf {
	return []kindOf{
		{"push A", api.OpPush, true},
		{"pop", api.OpPop, true},
		{"alloc A KIND C D E", api.OpAlloc, true},
		{"load A B C", api.OpLoad, true},
		{"store A B C/null", api.OpStore, true},
		{"get A B", api.OpGet, true},
		{"put A B WORD", api.OpPut, true},
		{"copy A B/null", api.OpCopy, true},
		{"clear A", api.OpClear, true},
		{"hash A", api.OpHash, true},
		{"shape A", api.OpShape, true},
		{"open A", api.OpOpen, true},
		{"take A", api.OpTake, true},
		{"retained A", api.OpRetained, true},
		{"path A", api.OpPath, true},
		{"same A B", api.OpSame, true},
		{"fetch A B", api.OpFetch, true},
		{"close A", api.OpClose, false},
		{"minor", api.OpMinor, false},
		{"all", api.OpAll, false},
		{"major", api.OpMajor, false},
		{"census", api.OpCensus, false},
		{"audit", api.OpAudit, false},
		{"sites", api.OpSites, false},
		{"dump", api.OpDump, false},
	}
}

// parts tells a line's name and what is wanted behind it.
func (k kindOf) parts() (string, []string) {
	l := strings.Fields(k.line)
	return l[0], l[1:]
}

// set lays a number into the field that stands for what is wanted.
func set(o *api.Op, wanted string, n int) {
	switch wanted {
	case "A":
		o.A = n
	case "B", "B/null", "KIND":
		o.B = n
	case "C", "C/null":
		o.C = n
	case "D":
		o.D = n
	case "E":
		o.E = n
	case "WORD":
		o.Word = uint64(n)
	}
}

// dice: numbers that hang on where they begin alone.
type dice uint64

func (d *dice) word() uint64 {
	*d += 0x9e3779b97f4a7c15
	x := uint64(*d)
	x = (x ^ x>>30) * 0xbf58476d1ce4e5b9
	x = (x ^ x>>27) * 0x94d049bb133111eb
	return x ^ x>>31
}

func (d *dice) below(n int) int { return int(d.word() % uint64(n)) }

func pick[T any](d *dice, list ...T) T { return list[d.below(len(list))] }
