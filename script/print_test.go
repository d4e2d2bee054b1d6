package script_test

import (
	"slices"
	"strconv"
	"strings"
	"testing"

	"midden/api"
	"midden/script"
)

// prints holds Print of operations behind config() to a text, and that one to being read as they are.
func prints(t *testing.T, what, text string, list ...api.Op) {
	t.Helper()
	got, err := script.Print(api.Script{Config: config(), Ops: list})
	want(t, "P18.8: "+what, []any{got, err}, []any{head + text, nil})
	want(t, "P18.10: "+what, parsed(t, "P18.10: "+what, text), list)
}

// refuses holds Print to that it can't write a script.
func refuses(t *testing.T, what string, s api.Script) {
	t.Helper()
	text, err := script.Print(s)
	if text != "" || err != error(api.ErrScriptPrint) {
		t.Errorf("P18.8: %s: %.200q, %v", what, text, err)
	}
}

func refusesOp(t *testing.T, what string, o api.Op) {
	t.Helper()
	pop := api.Op{Kind: api.OpPop}
	refuses(t, what, api.Script{Config: config(), Ops: []api.Op{o}})
	refuses(t, what+", among others", api.Script{Config: config(), Ops: []api.Op{pop, o, pop}})
	refuses(t, what+", at the end", api.Script{Config: config(), Ops: []api.Op{pop, pop, o}})
}

func TestPrintOperations(t *testing.T) {
	prints(t, "none", "")
	for _, k := range table() {
		name, wanted := k.parts()
		for first := -1; first < 6; first++ {
			o := api.Op{Kind: k.kind}
			line := name
			for i, w := range wanted {
				n := first + 3*i
				if w == "WORD" {
					n = 1 << 50
				}
				set(&o, w, n)
				line += " " + written(w, n)
			}
			prints(t, line, line+"\n", o)
			prints(t, line+", twice", line+"\n"+line+"\n", o, o)
			for _, thread := range []int{1, -1, 7, maxNumber, -maxNumber} {
				o.Thread = thread
				if k.thread {
					prints(t, line+" with a thread", "@"+strconv.Itoa(thread)+" "+line+"\n", o)
				} else {
					refusesOp(t, line+" with a thread", o)
				}
			}
		}
	}
}

func TestPrintNames(t *testing.T) {
	for n, word := range map[int]string{-2: "-2", -1: "-1", 0: "0", 1: "plain", 2: "weak", 3: "ephemeron", 4: "final", 5: "5", 6: "6", maxNumber: "1099511627776", -maxNumber: "-1099511627776"} {
		prints(t, "a kind", "alloc 1 "+word+" 2 3 4\n", api.Op{Kind: api.OpAlloc, A: 1, B: n, C: 2, D: 3, E: 4})
	}
	for n, word := range map[int]string{-2: "-2", -1: "null", 0: "0", 1: "1", 4: "4"} {
		prints(t, "null", "store 1 2 "+word+"\n", api.Op{Kind: api.OpStore, A: 1, B: 2, C: n})
		prints(t, "null", "copy 1 "+word+"\n", api.Op{Kind: api.OpCopy, A: 1, B: n})
	}
	prints(t, "-1 where null may not stand", "push -1\nload -1 -1 -1\nstore -1 -1 null\nalloc -1 -1 -1 -1 -1\nget -1 -1\nput -1 -1 1\ncopy -1 null\nsame -1 -1\nfetch -1 -1\nclose -1\ntake -1\n",
		api.Op{Kind: api.OpPush, A: -1}, api.Op{Kind: api.OpLoad, A: -1, B: -1, C: -1}, api.Op{Kind: api.OpStore, A: -1, B: -1, C: -1}, api.Op{Kind: api.OpAlloc, A: -1, B: -1, C: -1, D: -1, E: -1},
		api.Op{Kind: api.OpGet, A: -1, B: -1}, api.Op{Kind: api.OpPut, A: -1, B: -1, Word: 1}, api.Op{Kind: api.OpCopy, A: -1, B: -1}, api.Op{Kind: api.OpSame, A: -1, B: -1}, api.Op{Kind: api.OpFetch, A: -1, B: -1}, api.Op{Kind: api.OpClose, A: -1}, api.Op{Kind: api.OpTake, A: -1})
	prints(t, "words of 64 bits", "put 0 0 0\nput 0 0 18446744073709551615\nput 0 0 9223372036854775808\n", api.Op{Kind: api.OpPut}, api.Op{Kind: api.OpPut, Word: lastWord}, api.Op{Kind: api.OpPut, Word: 1 << 63})
}

// spoil lays into the i-th field of an operation (but Kind) another number; it tells which one.
func spoil(o *api.Op, i, n int) string {
	switch i {
	case 0:
		o.Thread = n
		return "thread"
	case 6:
		o.Word = uint64(n)
		return "WORD"
	}
	*[]*int{&o.A, &o.B, &o.C, &o.D, &o.E}[i-1] = n
	return "ABCDE"[i-1 : i]
}

// Fields that the operation doesn't name must be 0, those that it names no farther from it than 1 << 40.
func TestPrintFields(t *testing.T) {
	for _, k := range table() {
		_, wanted := k.parts()
		for i := range 7 {
			for _, n := range []int{1, -1, 2, maxNumber, maxNumber + 1, -maxNumber - 1, 1 << 62, greatest, least} {
				o := api.Op{Kind: k.kind}
				field := spoil(&o, i, n)
				named := field == "thread" && k.thread || slices.ContainsFunc(wanted, func(w string) bool {
					return w == field || w == field+"/null" || w == "KIND" && field == "B"
				})
				what := k.line + " with " + strconv.Itoa(n) + " as " + field
				if !named || field != "WORD" && (n > maxNumber || n < -maxNumber) {
					refusesOp(t, what, o)
					continue
				}
				s := api.Script{Config: config(), Ops: []api.Op{o}}
				text, err := script.Print(s)
				if err != nil {
					t.Errorf("P18.8: %s: %v", what, err)
				}
				again, err := script.Parse(text)
				want(t, "P18.10: "+what, []any{again, err}, []any{s, nil})
			}
		}
	}
}

func TestPrintKinds(t *testing.T) {
	for _, kind := range []int{least, -1 << 32, -26, -1, api.OpNone, api.OpPath + 1, 27, 256, 257, 1 << 32, 1<<32 + 1, greatest} {
		refusesOp(t, "the kind "+strconv.Itoa(kind), api.Op{Kind: kind})
		refusesOp(t, "the kind "+strconv.Itoa(kind), api.Op{Kind: kind, Thread: 1, A: 1, Word: 7})
	}
	refuses(t, "a kind that is none in the zero configuration", api.Script{Ops: []api.Op{{}}})
}

func TestPrintConfigurations(t *testing.T) {
	text, err := script.Print(api.Script{})
	want(t, "P18.8: the zero script", []any{text, err}, []any{"heap eden 0 survivor 0 tenured 0 large 0 floor 0 ratio 0 0 target 0 age 0 threads 0 slots 0 handles 0 buffer 0 workers 0\n", nil})
	n := len(placesOf(&api.Config{}))
	for i := range n {
		for _, x := range []int{-1, 1, maxNumber, -maxNumber, maxNumber + 1, -maxNumber - 1, 1 << 62, greatest, least} {
			c := config()
			*placesOf(&c)[i] = x
			s := api.Script{Config: c, Ops: []api.Op{{Kind: api.OpAll}}}
			if x > maxNumber || x < -maxNumber {
				refuses(t, "a number of a configuration", s)
				continue
			}
			var numbers []string
			for _, p := range placesOf(&c) {
				numbers = append(numbers, strconv.Itoa(*p))
			}
			text, err := script.Print(s)
			want(t, "P18.8: a configuration", []any{text, err}, []any{heapLine(numbers) + "\nall\n", nil})
			again, err := script.Parse(text)
			want(t, "P18.10: a configuration", []any{again, err}, []any{s, nil})
		}
	}
}

func TestPrintMany(t *testing.T) {
	l := make([]api.Op, maxOps+1, maxOps+10)
	for i := range l {
		l[i].Kind = api.OpPop
	}
	prints(t, "as many as there may be", times(maxOps, "pop"), l[:maxOps]...)
	refuses(t, "one more than there may be", api.Script{Config: config(), Ops: l})
	refuses(t, "far more than there may be", api.Script{Config: config(), Ops: make([]api.Op, 1<<20)})
}

// long tells a script whose text has so many bytes.
func long(t *testing.T, bytes int) api.Script {
	t.Helper()
	s := api.Script{Config: config()}
	bytes -= len(head)
	const line = len("put 0 0 18446744073709551615\n")
	for bytes >= 2*line {
		s.Ops = append(s.Ops, api.Op{Kind: api.OpPut, Word: lastWord})
		bytes -= line
	}
	for _, n := range []int{bytes / 2, bytes - bytes/2} {
		w, err := strconv.ParseUint(strings.Repeat("1", n-len("put 0 0 \n")), 10, 64)
		if err != nil {
			t.Fatal(err)
		}
		s.Ops = append(s.Ops, api.Op{Kind: api.OpPut, Word: w})
	}
	return s
}

func TestPrintLong(t *testing.T) {
	for _, n := range []int{maxText - 1, maxText} {
		s := long(t, n)
		text, err := script.Print(s)
		want(t, "P18.8: the bytes", []any{len(text), err}, []any{n, nil})
		again, err := script.Parse(text)
		want(t, "P18.10: a long text", []any{again, err}, []any{s, nil})
	}
	for _, n := range []int{maxText + 1, maxText + 2, maxText + 1000} {
		refuses(t, "a text above its bound", long(t, n))
	}
	s := api.Script{Config: config(), Ops: make([]api.Op, maxOps)}
	for i := range s.Ops {
		s.Ops[i] = api.Op{Kind: api.OpAlloc, Thread: -maxNumber, A: -maxNumber, B: -maxNumber, C: -maxNumber, D: -maxNumber, E: -maxNumber}
	}
	refuses(t, "the longest lines", s)
}
