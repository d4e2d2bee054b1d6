package script_test

import (
	"strings"
	"testing"

	"midden/api"
)

func TestTextBound(t *testing.T) {
	full := head + "pop #"
	full += strings.Repeat("x", maxText-len(full))
	want(t, "P18.1: a text of MaxText bytes", parsed(t, "P18.1", full[len(head):]), []api.Op{{Kind: api.OpPop}})
	want(t, "P18.9: a text of MaxText bytes", lines(ops(full)), []int{2})
	for _, text := range []string{full + "x", full + "\n", full + " ", strings.Repeat("\n", maxText+1), strings.Repeat("x", maxText+1), strings.Repeat("é", maxText/2) + "x", strings.Repeat(head, 600)} {
		faults(t, "P18.1: one byte above it, and more", text, 1, 0, api.ErrScriptLong)
		want(t, "P18.9: a text that is too long", ops(text), "[]")
	}
	// Bytes count, not signs; and all of them, whatever they are.
	faults(t, "P18.1: MaxText blanks", strings.Repeat(" ", maxText), 1, maxText, api.ErrScriptEnd)
	faults(t, "P18.1: MaxText line feeds", strings.Repeat("\n", maxText), maxText+1, 0, api.ErrScriptEnd)
	faults(t, "P18.1: MaxText bytes of signs", strings.Repeat("é", maxText/2), 1, 0, api.ErrScriptWord)
	faults(t, "P18.1: the text's bound comes ahead of a fault", "x"+full, 1, 0, api.ErrScriptLong)
}

func TestLinesAreNumbered(t *testing.T) {
	for _, x := range []struct {
		text string
		line int
	}{
		{head + "x", 2},
		{head + "\nx", 3},
		{head + "\n\n\n\nx\n\n", 6},
		{"\n" + head + "x", 3},
		{"#\n \n\t\n" + head + "# x\n  # y\nx", 7},
		{head + "pop\npop # x\nx", 4},
		{head + "repeat 2\npop\nend\nx", 5},
	} {
		faults(t, "P18.1: the line", x.text, x.line, 0, api.ErrScriptWord)
	}
	// A line feed alone ends a line.
	faults(t, "P18.1: a carriage return", head+"pop\rpop", 2, 0, api.ErrScriptWord)
	faults(t, "P18.1: a carriage return ahead of the line feed", head+"pop\r\n", 2, 0, api.ErrScriptWord)
	faults(t, "P18.1: a carriage return as a word", head+"pop \r\n", 2, 4, api.ErrScriptMore)
	faults(t, "P18.1: a line separator of Unicode's", head+"pop\u2028pop", 2, 0, api.ErrScriptWord)
	faults(t, "P18.1: a form feed", head+"\f", 2, 0, api.ErrScriptWord)
}

func TestTextEnd(t *testing.T) {
	for _, x := range []struct {
		text     string
		line, at int
	}{
		{"", 1, 0}, {" ", 1, 1}, {"\n", 2, 0}, {"\n\n", 3, 0}, {"\n \t", 2, 2}, {"# x", 1, 3}, {"#\n#é", 2, 3}, {"\t#", 1, 2}, {"   \n", 2, 0},
	} {
		faults(t, "P18.3: no configuration, at the text's end", x.text, x.line, x.at, api.ErrScriptEnd)
		want(t, "P18.9: no configuration", ops(x.text), "[]")
	}
	for _, x := range []struct {
		text     string
		line, at int
	}{
		{"repeat 2", 2, 8}, {"repeat 2 # x", 2, 12}, {"repeat 2\n", 3, 0}, {"repeat 2\n\n \t", 4, 2}, {"repeat 1\npop", 3, 3}, {"repeat 1\npop  # x", 3, 8}, {"repeat 1000\npop\n", 4, 0},
		{"repeat 2\npop\nend\nrepeat 2\n#é", 6, 3},
	} {
		faults(t, "P18.4: a repeat without an end, at the text's end", head+x.text, x.line, x.at, api.ErrScriptEnd)
	}
	for _, text := range []string{head, strings.TrimSuffix(head, "\n"), head + "\n\n", head + "# x", "\n" + head, "\t" + head, "#\n" + head} {
		want(t, "P18.3: a configuration alone", fault(t, text), place{})
		want(t, "P18.9: a configuration alone", ops(text), "[]")
	}
}

func TestWords(t *testing.T) {
	load := []api.Op{{Kind: api.OpLoad, A: 1, B: 2, C: 3}}
	for _, text := range []string{
		"load 1 2 3", "  load 1 2 3", "\tload 1 2 3", "load 1 2 3 ", "load 1 2 3\t", "load\t1\t2\t3", "load  1   2    3", " \t load \t1\t 2 \t\t 3 \t ",
		"load 1 2 3#", "load 1 2 3 #", "load 1 2 3#4 5", "load 1 2 3 # # x", "load 1 2 3 #\xff\x00", "@0 load 1 2 3", "\t@0\tload 1 2 3 #",
	} {
		want(t, "P18.1: words", parsed(t, "P18.1: words", text), load)
	}
	for _, x := range []struct {
		text string
		at   int
		e    api.Errno
	}{
		{"load#1 2 3", 10, api.ErrScriptEnd},
		{"load 1 2# 3", 11, api.ErrScriptEnd},
		{"#load", 0, api.OK},
		{"lo#ad 1 2 3", 0, api.ErrScriptWord},
		{"load\u00a01 2 3", 0, api.ErrScriptWord},
		{"load 1\u00a02 3 4", 5, api.ErrScriptNumber},
		{"load 1 2\v3", 7, api.ErrScriptNumber},
		{"load\x001 2 3", 0, api.ErrScriptWord},
		{"load 1 2 3 \u2003", 11, api.ErrScriptMore},
		{"load 1 2 3 \xff", 11, api.ErrScriptMore},
		{"\xff load", 0, api.ErrScriptWord},
		{"load 1 \xe2\x82 x", 7, api.ErrScriptNumber},
		{"load é x", 5, api.ErrScriptNumber},
		{"load 1 é", 7, api.ErrScriptNumber},
		{"pop é x", 4, api.ErrScriptMore},
		{"pop # é", 0, api.OK},
		{"push # é", 9, api.ErrScriptEnd}, // bytes are told, not signs
		{" \t x", 3, api.ErrScriptWord},
		{"LOAD 1 2 3", 0, api.ErrScriptWord},
		{"Pop", 0, api.ErrScriptWord},
		{"\"pop\"", 0, api.ErrScriptWord},
		{"pop;", 0, api.ErrScriptWord},
	} {
		if x.e == api.OK {
			want(t, "P18.1: "+x.text, fault(t, head+x.text), place{})
			continue
		}
		faults(t, "P18.1: words", head+x.text, 2, x.at, x.e)
	}
}

// In a line the leftmost fault is told, of several lines the first one's.
func TestFirstFault(t *testing.T) {
	for _, x := range []struct {
		text     string
		line, at int
		e        api.Errno
	}{
		{"load x y z", 2, 5, api.ErrScriptNumber},
		{"load 1 y z 4 5", 2, 7, api.ErrScriptNumber},
		{"load 1 2 z 4 5", 2, 9, api.ErrScriptNumber},
		{"load 1 2 3 x 5", 2, 11, api.ErrScriptMore},
		{"load x", 2, 5, api.ErrScriptNumber},
		{"load 1 2", 2, 8, api.ErrScriptEnd},
		{"x load", 2, 0, api.ErrScriptWord},
		{"alloc 0 hard x 0 7 8", 2, 8, api.ErrScriptNumber},
		{"alloc 0 plain x 0", 2, 14, api.ErrScriptNumber},
		{"put 0 x y", 2, 6, api.ErrScriptNumber},
		{"put 0 0 y z", 2, 8, api.ErrScriptNumber},
		{"pop\npush\nx", 3, 4, api.ErrScriptEnd},
		{"push x\nload\nend", 2, 5, api.ErrScriptNumber},
		{"repeat 0\nx", 2, 7, api.ErrScriptNumber},
		{"repeat 0 1", 2, 7, api.ErrScriptNumber},
		{"repeat 2\nx\nend x", 3, 0, api.ErrScriptWord},
		{"repeat 2\nend x\nx", 3, 4, api.ErrScriptMore},
		{"repeat 2\nx", 3, 0, api.ErrScriptWord},
		{"repeat 2 3", 2, 9, api.ErrScriptMore},
	} {
		faults(t, "P18.1: the first fault", head+x.text, x.line, x.at, x.e)
	}
	faults(t, "P18.1: the first fault", "heap eden x survivor y\nx", 1, 10, api.ErrScriptNumber)
	faults(t, "P18.1: the first fault", "heap edn x\nx", 1, 5, api.ErrScriptWord)
}

// goodNumbers and badNumbers: P18.2, its edges and beyond.
func goodNumbers() map[string]int {
	return map[string]int{
		"0": 0, "1": 1, "-1": -1, "7": 7, "9": 9, "10": 10, "-10": -10, "100": 100, "65536": 65536, "4294967296": 1 << 32, "-4294967297": -1<<32 - 1,
		"999999999999": 999999999999, "1000000000000": 1000000000000, "1099511627775": maxNumber - 1, "1099511627776": maxNumber, "-1099511627775": 1 - maxNumber, "-1099511627776": -maxNumber,
	}
}

func badNumbers() []string {
	return []string{
		"1099511627777", "-1099511627777", "1999999999999", "9999999999999", "10000000000000", "-10000000000000", "9223372036854775807", "-9223372036854775808", "9223372036854775808",
		"18446744073709551615", "18446744073709551616", "18446744073709551617", "-18446744073709551617", "36893488147419103233", "340282366920938463463374607431768211457", strings.Repeat("9", 1000), "1" + strings.Repeat("0", 1000),
		"-0", "00", "01", "-00", "-01", "007", "0000000000000", "00000000000001", "-", "--1", "-+1", "+1", "+0", "+", "1-", "1-1", "0-", "-1-",
		"1.0", ".5", "1e3", "1E3", "0x1", "0b1", "0o7", "1_000", "1,000", "'1'", "a", "x1", "1x", "-x", "1\u0660", "\u0663", "\uff11", "\u00b2", "1\r", "1\x00", "\xff", "NaN", "Inf", "true", "@1", "@", "Null", "NULL", "nul", "nulll", "hard", "Plain", "heap", "end", "repeat", "pop",
	}
}

// numberPlaces: texts with an N where a number may stand, and how it is told there.
type numberPlace struct {
	text string
	get  func(o api.Op) int
}

func numberPlaces() []numberPlace {
	a, b, c := func(o api.Op) int { return o.A }, func(o api.Op) int { return o.B }, func(o api.Op) int { return o.C }
	d, e, thread := func(o api.Op) int { return o.D }, func(o api.Op) int { return o.E }, func(o api.Op) int { return o.Thread }
	return []numberPlace{
		{"push N", a}, {"alloc N plain 1 2 3", a}, {"alloc 1 N 1 2 3", b}, {"alloc 1 final N 2 3", c}, {"alloc 1 5 1 N 3", d}, {"alloc 1 weak 1 2 N", e},
		{"load N 1 2", a}, {"load 1 N 2", b}, {"load 1 2 N", c}, {"store N 1 2", a}, {"store 1 N null", b}, {"store 1 2 N", c}, {"get N 1", a}, {"get 1 N", b},
		{"put N 1 2", a}, {"put 1 N 2", b}, {"copy N 1", a}, {"copy 1 N", b}, {"clear N", a}, {"same N 1", a}, {"same 1 N", b}, {"hash N", a}, {"shape N", a}, {"open N", a},
		{"fetch N 1", a}, {"fetch 1 N", b}, {"close N", a}, {"take N", a}, {"retained N", a}, {"path N", a}, {"@N pop", thread}, {"@N push 2", thread}, {"@N path 0", thread},
	}
}

func TestNumbers(t *testing.T) {
	for _, x := range numberPlaces() {
		for text, n := range goodNumbers() {
			line := strings.Replace(x.text, "N", text, 1)
			l := parsed(t, "P18.2: a number", line)
			if len(l) != 1 || x.get(l[0]) != n {
				t.Errorf("P18.2: %q: %v, want the number %d", line, l, n)
			}
		}
		at := strings.IndexByte(x.text, 'N')
		if x.text[0] == '@' {
			at = 0
		}
		for _, text := range badNumbers() {
			faults(t, "P18.2: no number", head+" "+strings.Replace(x.text, "N", text, 1), 2, at+1, api.ErrScriptNumber)
		}
	}
}

// Names stand in their own places alone.
func TestNamesElsewhere(t *testing.T) {
	for _, x := range numberPlaces() {
		for _, name := range []string{"plain", "weak", "ephemeron", "final", "null"} {
			line := strings.Replace(x.text, "N", name, 1)
			is := strings.HasPrefix(x.text, "alloc 1 N") && name != "null" || name == "null" && (x.text == "store 1 2 N" || x.text == "copy 1 N")
			if e := fault(t, head+line).e; (e == api.OK) != is || !is && e != api.ErrScriptNumber {
				t.Errorf("P18.5: %q: error %d", line, e)
			}
		}
	}
	faults(t, "P18.5: null as a word of 64 bits", head+"put 0 0 null", 2, 8, api.ErrScriptNumber)
	faults(t, "P18.5: null as a repeat's number", head+"repeat null", 2, 7, api.ErrScriptNumber)
}

func TestWordsOf64Bits(t *testing.T) {
	for text, n := range map[string]uint64{
		"0": 0, "1": 1, "9": 9, "10": 10, "1099511627776": maxNumber, "1099511627777": maxNumber + 1, "9999999999999": 9999999999999, "10000000000000": 10000000000000,
		"9223372036854775807": greatest, "9223372036854775808": 1 << 63, "9999999999999999999": 9999999999999999999, "10000000000000000000": 10000000000000000000, "18446744073709551614": lastWord - 1, "18446744073709551615": lastWord,
	} {
		want(t, "P18.2: a word of 64 bits", parsed(t, "P18.2", "put 3 4 "+text), []api.Op{{Kind: api.OpPut, A: 3, B: 4, Word: n}})
	}
	for _, text := range []string{
		"18446744073709551616", "18446744073709551617", "18446744073709551625", "20000000000000000000", "99999999999999999999", "100000000000000000000", "184467440737095516150", "36893488147419103232", strings.Repeat("1", 2000),
		"-1", "-0", "-18446744073709551615", "00", "01", "000000000000000000001", "018446744073709551615", "+1", "+", "-", "x", "0x10", "1_0", "1.0", "1e3", "plain", "\u0661", "1\r", "@1",
	} {
		faults(t, "P18.2: no word of 64 bits", head+"put 3 4 "+text, 2, 8, api.ErrScriptNumber)
		faults(t, "P18.2: no word of 64 bits", head+"\t@1 put 3 -4 "+text+" 9", 2, 13, api.ErrScriptNumber)
	}
}
