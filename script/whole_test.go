package script_test

import (
	"slices"
	"strconv"
	"strings"
	"testing"

	"midden/api"
	"midden/script"
)

// number tells a number's word, mostly one that may be.
func (d *dice) number() string {
	switch d.below(40) {
	case 0:
		return pick(d, badNumbers()...)
	case 1:
		return pick(d, "1099511627776", "-1099511627776", "1099511627777", "-1", "-0", "0")
	}
	return strconv.Itoa(d.below(30) - 3)
}

// operation tells an operation's line, mostly one that may be.
func (d *dice) operation() string {
	k := pick(d, table()...)
	name, wanted := k.parts()
	words := []string{name}
	if d.below(3) == 0 && k.thread || d.below(100) == 0 {
		words = []string{"@" + d.number(), name}
	}
	for _, w := range wanted {
		word := d.number()
		switch {
		case w == "KIND" && d.below(3) > 0:
			word = pick(d, "plain", "weak", "ephemeron", "final")
		case strings.HasSuffix(w, "/null") && d.below(2) > 0:
			word = "null"
		case w == "WORD":
			word = pick(d, "0", "5", "18446744073709551615", strconv.FormatUint(d.word(), 10))
			if d.below(30) == 0 {
				word = pick(d, "18446744073709551616", "-1", "00", "x")
			}
		}
		words = append(words, word)
	}
	return strings.Join(d.spoilt(words), " ")
}

// spoilt takes a word away, puts one in, or leaves the words, mostly that.
func (d *dice) spoilt(words []string) []string {
	at := d.below(len(words))
	switch d.below(120) {
	case 0:
		return slices.Delete(words, at, at+1)
	case 1:
		return slices.Insert(words, at, pick(d, "x", "1", "@1", "null", "pop", "end", "heap"))
	case 2:
		return append(words, pick(d, "x", "1", "@1"))
	case 3:
		words[at] = pick(d, "x", "@", "@1", "pop", "1", "\xff", "é", "plain")
	}
	return words
}

// text tells a text, that has a fault or none.
func (d *dice) text() string {
	list := []string{strings.Join(d.spoilt(strings.Fields(head)), " ")}
	open := false
	for range d.below(25) {
		switch n := d.below(30); {
		case n == 0:
			list = append(list, pick(d, "", " ", "# pop", "\t#"))
		case n < 3 && !open || n == 3 && d.below(20) == 0:
			list = append(list, strings.Join(d.spoilt([]string{"repeat", pick(d, "1", "2", "3", "7", "0", "1000", "1000", "700", d.number())}), " "))
			open = true
		case n < 8 && open || n == 8 && d.below(20) == 0:
			list = append(list, strings.Join(d.spoilt([]string{"end"}), " "))
			open = false
		default:
			list = append(list, d.operation())
		}
	}
	if open && d.below(8) > 0 {
		list = append(list, "end")
	}
	return strings.Join(list, "\n") + pick(d, "", "\n", "\n\n", "\n# x", " # é")
}

// holds holds Parse and Ops of a text to the model.
func holds(t *testing.T, text string) read {
	t.Helper()
	m := model(text)
	s, err := script.Parse(text)
	if is := fault(t, text); is != m.fault {
		t.Fatalf("P18.1: the fault of %q: %v, want %v", text, is, m.fault)
	}
	if s.Config != m.script.Config || !slices.Equal(s.Ops, m.script.Ops) {
		t.Fatalf("P18.7: %q: %v, %v, want %v", text, s, err, m.script)
	}
	if l := ops(text); !slices.Equal(l, m.ops) {
		t.Fatalf("P18.9: %q: %v, want %v", text, l, m.ops)
	}
	return m
}

func TestTextsOfTheDice(t *testing.T) {
	met := map[api.Errno]int{}
	for seed := range 6000 {
		d := dice(seed)
		met[holds(t, d.text()).fault.e]++
	}
	for _, e := range []api.Errno{api.OK, api.ErrScriptWord, api.ErrScriptNumber, api.ErrScriptEnd, api.ErrScriptMore, api.ErrScriptMany} {
		if met[e] < 60 {
			t.Errorf("error %d was met %d times alone: that says little", e, met[e])
		}
	}
}

// Bytes that are changed, put in or taken out.
func TestSpoiltBytes(t *testing.T) {
	signs := []string{" ", "\t", "\n", "#", "@", "-", "0", "1", "9", "x", "\r", "\x00", "\xff", "é", " 1", "\nend\n", "\nrepeat 2\n"}
	for seed := range 6000 {
		d := dice(seed)
		b := []byte(example + "@1 copy 0 null\nalloc 1 weak 1 2 3\nclose 0 # x\n")
		for range 1 + d.below(3) {
			at := d.below(len(b))
			if d.below(3) > 0 && at < len(head) {
				at = len(head) + d.below(len(b)-len(head))
			}
			switch d.below(3) {
			case 0:
				b = slices.Delete(b, at, at+1)
			case 1:
				b = slices.Insert(b, at, []byte(pick(&d, signs...))...)
			default:
				b[at] = pick(&d, signs...)[0]
			}
		}
		holds(t, string(b))
	}
}

// Each text that is cut off behind any of its bytes.
func TestCutOff(t *testing.T) {
	for n := range len(example) + 1 {
		holds(t, example[:n])
		holds(t, example[n:])
	}
}

// P18.10: what Print writes is read as the script, and is written the same again.
func TestThereAndBack(t *testing.T) {
	n := 0
	for seed := range 3000 {
		d := dice(seed)
		s, err := script.Parse(d.text())
		if err != nil {
			continue
		}
		text, err := script.Print(s)
		if err == api.ErrScriptPrint && len(s.Ops) > 100 {
			continue // it would be too long
		}
		n++
		again, e := script.Parse(text)
		if err != nil || e != nil || again.Config != s.Config || !slices.Equal(again.Ops, s.Ops) {
			t.Fatalf("P18.10: seed %d: %v, %v, want %v", seed, err, e, s)
		}
		twice, err := script.Print(again)
		if twice != text || err != nil {
			t.Fatalf("P18.8: seed %d: another text of the same script: %q, want %q", seed, twice, text)
		}
	}
	if n < 300 {
		t.Errorf("%d texts were read: that says little", n)
	}
}

// looser tells a text with other blanks, comments and lines without words, and by line where it is now.
func (d *dice) looser(text string) (string, []int) {
	var list []string
	now := []int{0}
	for _, l := range strings.Split(text, "\n") {
		for d.below(3) == 0 {
			list = append(list, pick(d, "", " ", "\t\t", "# end", " #", "#\xff heap"))
		}
		words := piece.FindAllString(comment.ReplaceAllString(l, ""), -1)
		loose := pick(d, "", " ", "\t")
		for i, w := range words {
			if i > 0 {
				loose += pick(d, " ", "\t", "  ", " \t ")
			}
			loose += w
		}
		list = append(list, loose+pick(d, "", " ", "\t", "#", " # x", "#pop"))
		now = append(now, len(list))
	}
	return strings.Join(list, "\n"), now
}

func TestBlanksChangeNothing(t *testing.T) {
	for seed := range 2000 {
		d := dice(seed)
		text := d.text()
		loose, now := d.looser(text)
		s, _ := script.Parse(text)
		other, _ := script.Parse(loose)
		if s.Config != other.Config || !slices.Equal(s.Ops, other.Ops) {
			t.Fatalf("P18.10: %q: %v, but %q: %v", text, s, loose, other)
		}
		a, b := fault(t, text), fault(t, loose)
		if a.e != b.e || a.e != api.OK && now[a.line] != b.line {
			t.Fatalf("P18.10: %q: %v, but %q: %v", text, a, loose, b)
		}
		l := ops(text)
		for i := range l {
			l[i].line = now[l[i].line]
		}
		if !slices.Equal(l, ops(loose)) {
			t.Fatalf("P18.10: %q and %q: Ops", text, loose)
		}
	}
}

// A repeat of n is its body written n times.
func TestRepeatIsWrittenOften(t *testing.T) {
	for seed := range 500 {
		d := dice(seed)
		folded, flat := head, head
		for range 1 + d.below(4) {
			n := 1 + d.below(9)
			body := ""
			for range d.below(5) {
				body += d.operation() + "\n"
			}
			folded += "pop\nrepeat " + strconv.Itoa(n) + "\n" + body + "end\n"
			flat += "pop\n" + strings.Repeat(body, n)
		}
		a, errA := script.Parse(folded)
		b, errB := script.Parse(flat)
		if (errA == nil) != (errB == nil) || !slices.Equal(a.Ops, b.Ops) {
			t.Fatalf("P18.10: %q: %v, %v, but written out %v, %v", folded, a.Ops, errA, b.Ops, errB)
		}
	}
	body := times(3, "alloc 0 plain 1 2 3")
	want(t, "P18.10: a repeat of MaxRepeat", parsed(t, "P18.10", "repeat 1000\n"+body+"end"), parsed(t, "P18.10", strings.Repeat(body, 1000)))
}

// P18.11: what stands on lines behind the faulty one doesn't bear on the fault, nor on what Ops gives.
func TestBehindTheFault(t *testing.T) {
	for seed := range 2000 {
		d := dice(seed)
		text := d.text()
		f := fault(t, text)
		all := strings.Split(text, "\n")
		if f.e == api.OK || f.line == len(all) && f.e == api.ErrScriptEnd {
			continue
		}
		ahead := strings.Join(all[:f.line], "\n")
		for _, behind := range []string{"", "\n", "\nx", "\nend\n", "\nrepeat 2\n", "\n" + head, "\n" + d.text(), "\n" + times(5000, "pop")} {
			if is := fault(t, ahead+behind); is != f {
				t.Fatalf("P18.11: %q: %v, but %v with %.50q behind it", text, f, is, behind)
			}
			if !slices.Equal(ops(ahead+behind), ops(text)) {
				t.Fatalf("P18.11: Ops of %q with %.50q behind the fault", text, behind)
			}
		}
		if is := fault(t, ahead+strings.Repeat("\n", maxText)); is != (place{1, 0, api.ErrScriptLong}) {
			t.Fatalf("P18.11: the text's bound: %v", is)
		}
	}
}

// If there is no fault, Ops gives just what Parse answers.
func TestOpsAndParse(t *testing.T) {
	for seed := range 2000 {
		d := dice(seed)
		text := d.text()
		s, err := script.Parse(text)
		if l := behind(ops(text)); err == nil && !slices.Equal(l, s.Ops) {
			t.Fatalf("P18.11: %q: %v, want %v", text, l, s.Ops)
		}
	}
}

// Print of scripts of all sorts, held to what the chapter says may be written.
func TestScriptsOfTheDice(t *testing.T) {
	written := 0
	for seed := range 4000 {
		d := dice(seed)
		s := api.Script{Config: config(), Ops: make([]api.Op, d.below(6))}
		for i := range s.Ops {
			k := pick(&d, table()...)
			s.Ops[i].Kind = k.kind
			_, wanted := k.parts()
			for _, w := range wanted {
				set(&s.Ops[i], w, pick(&d, -1, 0, 1, 2, 5, maxNumber, d.below(100)))
			}
			if k.thread {
				s.Ops[i].Thread = pick(&d, 0, 0, 1, -maxNumber)
			}
			if d.below(20) == 0 {
				spoil(&s.Ops[i], d.below(7), pick(&d, 1, maxNumber+1, least))
			}
		}
		text, err := script.Print(s)
		is := mayBeWritten(s)
		if is != (err == nil) || err != nil && (err != error(api.ErrScriptPrint) || text != "") {
			t.Fatalf("P18.8: %v: %q, %v", s.Ops, text, err)
		}
		if !is {
			continue
		}
		written++
		if m := holds(t, text); !slices.Equal(m.script.Ops, s.Ops) {
			t.Fatalf("P18.8: %v is written as %q", s.Ops, text)
		}
	}
	if written < 400 || written > 3800 {
		t.Errorf("%d of 4000 are written: that says little", written)
	}
}

// mayBeWritten tells whether each operation has nothing but what it names, and that within its bounds.
func mayBeWritten(s api.Script) bool {
	for _, o := range s.Ops {
		for _, k := range table() {
			if k.kind != o.Kind {
				continue
			}
			rest := o
			_, wanted := k.parts()
			for _, w := range wanted {
				set(&rest, w, 0)
			}
			if k.thread {
				rest.Thread = 0
			}
			if rest != (api.Op{Kind: o.Kind}) {
				return false
			}
		}
		for _, n := range []int{o.Thread, o.A, o.B, o.C, o.D, o.E} {
			if n > maxNumber || n < -maxNumber {
				return false
			}
		}
	}
	return true
}
