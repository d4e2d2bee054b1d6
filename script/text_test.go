package script_test

import (
	"strconv"
	"strings"
	"testing"

	"midden/api"
	"midden/script"
)

// settings: the words behind heap, in their order; N: a number.
var settings = strings.Fields("eden N survivor N tenured N large N floor N ratio N N target N age N threads N slots N handles N buffer N workers N")

// placesOf tells a configuration's fields in the line's order.
func placesOf(c *api.Config) []*int {
	return []*int{&c.Eden, &c.Survivor, &c.Tenured, &c.Large, &c.Floor, &c.Num, &c.Den, &c.Target, &c.MaxAge, &c.Threads, &c.Slots, &c.Handles, &c.Buffer, &c.Workers}
}

// heapLine tells the line of a configuration of these numbers.
func heapLine(numbers []string) string {
	words := []string{"heap"}
	i := 0
	for _, w := range settings {
		if w == "N" {
			w = numbers[i]
			i++
		}
		words = append(words, w)
	}
	return strings.Join(words, " ")
}

func TestConfiguration(t *testing.T) {
	var c api.Config
	var numbers []string
	for i, p := range placesOf(&c) {
		*p = 101 + i
		numbers = append(numbers, strconv.Itoa(101+i))
	}
	s, err := script.Parse(heapLine(numbers))
	want(t, "P18.3: each number in its field", []any{s.Config, len(s.Ops), err}, []any{c, 0, nil})
	for i := range numbers {
		is := numbers[i]
		at := strings.Index(heapLine(numbers), is)
		for text, n := range goodNumbers() {
			numbers[i] = text
			other := c
			*placesOf(&other)[i] = n
			s, err := script.Parse(" \n" + heapLine(numbers) + "#\n")
			want(t, "P18.3: numbers of any size", []any{s.Config, err}, []any{other, nil})
		}
		for _, text := range append(badNumbers(), "null", "plain") {
			numbers[i] = text
			faults(t, "P18.3: no number", "\n"+heapLine(numbers)+" more", 2, at, api.ErrScriptNumber)
		}
		numbers[i] = is
	}
}

// Each word of the line is wanted, in its place.
func TestConfigurationWords(t *testing.T) {
	words := strings.Fields(head)
	for i := range words {
		ahead := strings.Join(words[:i], " ")
		at := 0
		if i > 0 {
			at = len(ahead) + 1
		}
		if i > 0 {
			faults(t, "P18.3: it ends early", ahead, 1, len(ahead), api.ErrScriptEnd)
			faults(t, "P18.3: it ends early, with a comment", ahead+" # x é\npop", 1, len(ahead)+7, api.ErrScriptEnd)
			faults(t, "P18.3: it goes on on the next line", ahead+"\n"+strings.Join(words[i:], " "), 1, len(ahead), api.ErrScriptEnd)
		}
		e := api.ErrScriptNumber
		if i == 0 || words[i][0] >= 'a' {
			e = api.ErrScriptWord
		}
		for _, other := range []string{"x", "Heap", "edens", "ede", "rati", "maxage", "num", "@1", "é"} {
			behind := strings.Join(append([]string{other}, words[i+1:]...), " ")
			faults(t, "P18.3: another word", strings.TrimSpace(ahead+" "+behind), 1, at, e)
			faults(t, "P18.3: a word more", strings.TrimSpace(ahead+" "+other+" "+strings.Join(words[i:], " ")), 1, at, e)
		}
		if e == api.ErrScriptWord {
			faults(t, "P18.3: a number ahead of a word", strings.TrimSpace(ahead+" 5 "+strings.Join(words[i:], " ")), 1, at, e)
		}
		want(t, "P18.9: a line that is no configuration", ops(ahead+"\npop"), "[]")
	}
	line := strings.TrimSuffix(head, "\n")
	faults(t, "P18.3: words behind it", line+" 1", 1, len(line)+1, api.ErrScriptMore)
	faults(t, "P18.3: words behind it", line+"\t pop x", 1, len(line)+2, api.ErrScriptMore)
	faults(t, "P18.3: words behind it", line+" heap", 1, len(line)+1, api.ErrScriptMore)
	faults(t, "P18.3: another order", "heap survivor 64 eden 64", 1, 5, api.ErrScriptWord)
	faults(t, "P18.3: one number of ratio", "heap eden 64 survivor 64 tenured 100 large 40 floor 30 ratio 2 target 50", 1, 63, api.ErrScriptNumber)
	faults(t, "P18.3: two numbers elsewhere", "heap eden 64 64 survivor 64", 1, 13, api.ErrScriptWord)
	for _, other := range []string{"push 3", "repeat 2", "end", "@1 heap", "@1", "hea", "heaps", "eden 64", "5", "HEAP eden"} {
		faults(t, "P18.3: the first line with words is another", "# x\n \t"+other+"\n"+head, 2, 2, api.ErrScriptWord)
		want(t, "P18.9: the first line with words is another", ops("# x\n \t"+other+"\n"+head+"pop\n"), "[]")
	}
	want(t, "P18.9: words behind the configuration", ops(line+" 1\npop\n"), "[]")
}

func TestRepeat(t *testing.T) {
	pop, all := api.Op{Kind: api.OpPop}, api.Op{Kind: api.OpAll}
	want(t, "P18.4: once", parsed(t, "P18.4", "repeat 1\npop\nend"), []api.Op{pop})
	want(t, "P18.4: twice", parsed(t, "P18.4", "repeat 2\npop\nall\nend"), []api.Op{pop, all, pop, all})
	want(t, "P18.4: between others", parsed(t, "P18.4", "all\nrepeat 3\npop\nend\nall"), []api.Op{all, pop, pop, pop, all})
	want(t, "P18.4: one behind another", parsed(t, "P18.4", "repeat 2\npop\nend\nrepeat 2\nall\nend\n"), []api.Op{pop, pop, all, all})
	want(t, "P18.4: nothing in it", parsed(t, "P18.4", "repeat 1000\nend\npop"), []api.Op{pop})
	want(t, "P18.4: lines without words in it", parsed(t, "P18.4", " repeat\t2 # x\n\n# pop\n\tpop #\n  end# x\n"), []api.Op{pop, pop})
	l := parsed(t, "P18.4", "repeat 1000\npop\nend")
	if len(l) != maxRepeat || l[0] != pop || l[maxRepeat-1] != pop {
		t.Errorf("P18.4: a repeat of MaxRepeat: %d operations", len(l))
	}
}

func TestRepeatFaults(t *testing.T) {
	for _, n := range append(badNumbers(), "0", "-1", "-5", "1001", "1002", "65537", "1099511627776", "-1099511627776", "null", "plain") {
		faults(t, "P18.4: a number that may not be", head+"repeat "+n+"\npop\nend", 2, 7, api.ErrScriptNumber)
		faults(t, "P18.4: ahead of words behind it", head+"repeat  "+n+" 7", 2, 8, api.ErrScriptNumber)
	}
	for _, x := range []struct {
		text     string
		line, at int
		e        api.Errno
	}{
		{"repeat", 2, 6, api.ErrScriptEnd},
		{"repeat # 2", 2, 10, api.ErrScriptEnd},
		{"repeat 2 x\npop\nend", 2, 9, api.ErrScriptMore},
		{"repeat 1 2\n", 2, 9, api.ErrScriptMore},
		{"repeat 2\n repeat 3\npop\nend\nend", 3, 1, api.ErrScriptWord},
		{"repeat 2\nrepeat", 3, 0, api.ErrScriptWord},
		{"repeat 2\nrepeat 0 x", 3, 0, api.ErrScriptWord},
		{"repeat 2\npop\n\trepeat x\nend", 4, 1, api.ErrScriptWord},
		{"end", 2, 0, api.ErrScriptWord},
		{"  end x", 2, 2, api.ErrScriptWord},
		{"repeat 2\nend\n end", 4, 1, api.ErrScriptWord},
		{"repeat 2\npop\nend 2", 4, 4, api.ErrScriptMore},
		{"repeat 2\nend # x\nend x", 4, 0, api.ErrScriptWord},
		{" heap", 2, 1, api.ErrScriptWord},
		{head, 2, 0, api.ErrScriptWord},
		{"pop\n" + head, 3, 0, api.ErrScriptWord},
		{"repeat 2\n\theap", 3, 1, api.ErrScriptWord},
		{"repeat2", 2, 0, api.ErrScriptWord},
		{"Repeat 2", 2, 0, api.ErrScriptWord},
		{"ends", 2, 0, api.ErrScriptWord},
		{"@1 repeat 2", 2, 3, api.ErrScriptWord},
		{"@1 end", 2, 3, api.ErrScriptWord},
		{"@1 heap", 2, 3, api.ErrScriptWord},
		{"repeat 2\n@1 end", 3, 3, api.ErrScriptWord},
		{"repeat 2\npush x\nend", 3, 5, api.ErrScriptNumber},
		{"repeat 2\npush\nend", 3, 4, api.ErrScriptEnd},
	} {
		faults(t, "P18.4", head+x.text, x.line, x.at, x.e)
	}
}

// written tells a line's word for what is wanted, with this number.
func written(wanted string, n int) string {
	if wanted == "KIND" && n >= 1 && n <= 4 {
		return []string{"plain", "weak", "ephemeron", "final"}[n-1]
	}
	if strings.HasSuffix(wanted, "/null") && n == -1 {
		return "null"
	}
	return strconv.Itoa(n)
}

func TestOperations(t *testing.T) {
	for _, k := range table() {
		name, wanted := k.parts()
		for first := -1; first < 6; first++ {
			o := api.Op{Kind: k.kind}
			line := name
			for i, w := range wanted {
				n := first + 3*i
				if w == "WORD" {
					n = 1 << 50
				}
				set(&o, w, n)
				line += " " + written(w, n)
			}
			want(t, "P18.5: "+line, parsed(t, "P18.5", line), []api.Op{o})
			want(t, "P18.9: "+line, ops(head+"\n"+line), []given{{3, o}})
			for _, thread := range []int{0, 1, 7, 8, -3, maxNumber} {
				sign := "@" + strconv.Itoa(thread)
				if !k.thread {
					faults(t, "P18.5: an operation without a thread", head+" "+sign+" "+line, 2, 1, api.ErrScriptWord)
					continue
				}
				other := o
				other.Thread = thread
				want(t, "P18.5: "+sign+" "+line, parsed(t, "P18.5", sign+"\t"+line), []api.Op{other})
			}
		}
	}
	if len(table()) != api.OpPath {
		t.Errorf("P18.5: the test's table has %d lines", len(table()))
	}
}

func TestNamesOfNumbers(t *testing.T) {
	for _, x := range []struct {
		text string
		o    api.Op
	}{
		{"alloc 0 plain 0 0 0", api.Op{Kind: api.OpAlloc, B: 1}},
		{"alloc 0 weak 0 0 0", api.Op{Kind: api.OpAlloc, B: 2}},
		{"alloc 0 ephemeron 0 0 0", api.Op{Kind: api.OpAlloc, B: 3}},
		{"alloc 0 final 0 0 0", api.Op{Kind: api.OpAlloc, B: 4}},
		{"alloc 0 0 0 0 0", api.Op{Kind: api.OpAlloc}},
		{"alloc 0 1 0 0 0", api.Op{Kind: api.OpAlloc, B: 1}},
		{"alloc 0 4 0 0 0", api.Op{Kind: api.OpAlloc, B: 4}},
		{"alloc 0 5 0 0 0", api.Op{Kind: api.OpAlloc, B: 5}},
		{"alloc 0 -1 0 0 0", api.Op{Kind: api.OpAlloc, B: -1}},
		{"store 0 0 null", api.Op{Kind: api.OpStore, C: -1}},
		{"store 0 0 -1", api.Op{Kind: api.OpStore, C: -1}},
		{"store 0 0 0", api.Op{Kind: api.OpStore}},
		{"store 0 0 -2", api.Op{Kind: api.OpStore, C: -2}},
		{"copy 0 null", api.Op{Kind: api.OpCopy, B: -1}},
		{"copy 0 -1", api.Op{Kind: api.OpCopy, B: -1}},
		{"copy 0 0", api.Op{Kind: api.OpCopy}},
	} {
		want(t, "P18.5: "+x.text, parsed(t, "P18.5", x.text), []api.Op{x.o})
	}
}

// Of each operation: each word that lacks, each one that may not be, and one more.
func TestOperationFaults(t *testing.T) {
	for _, k := range table() {
		name, wanted := k.parts()
		for _, sign := range []string{"", "@5 "} {
			if sign != "" && !k.thread {
				continue
			}
			line := sign + name
			for _, w := range wanted {
				faults(t, "P18.2: a line that ends early", head+line, 2, len(line), api.ErrScriptEnd)
				faults(t, "P18.2: a line that ends early", head+line+" # 1 2", 2, len(line)+6, api.ErrScriptEnd)
				for _, bad := range []string{"x", "-0", "01", "heap"} {
					faults(t, "P18.5: a word that may not be", head+line+"  "+bad+" y", 2, len(line)+2, api.ErrScriptNumber)
				}
				line += " " + written(w, 1)
			}
			want(t, "P18.5: "+line, fault(t, head+line), place{})
			for _, more := range []string{"1", "x", "@1", "null", "pop"} {
				faults(t, "P18.2: words behind the last one", head+line+"\t"+more+" y", 2, len(line)+1, api.ErrScriptMore)
			}
		}
	}
}

func TestThread(t *testing.T) {
	for _, x := range []struct {
		text string
		at   int
		e    api.Errno
	}{
		{"@1", 2, api.ErrScriptEnd},
		{"@", 1, api.ErrScriptEnd},
		{"@x", 2, api.ErrScriptEnd},
		{"@1 # pop", 8, api.ErrScriptEnd},
		{"@1#pop", 6, api.ErrScriptEnd},
		{" @1 ", 4, api.ErrScriptEnd},
		{"@1 x", 3, api.ErrScriptWord},
		{"@x x", 3, api.ErrScriptWord},
		{"@ x", 2, api.ErrScriptWord},
		{"@x x y", 3, api.ErrScriptWord},
		{"@1 @2 pop", 3, api.ErrScriptWord},
		{"@1 1", 3, api.ErrScriptWord},
		{"@ 1 pop", 2, api.ErrScriptWord},
		{"@0 major", 0, api.ErrScriptWord},
		{"@x major", 0, api.ErrScriptWord},
		{"@ major", 0, api.ErrScriptWord},
		{"@1 close", 0, api.ErrScriptWord},
		{"@1 close x", 0, api.ErrScriptWord},
		{"@x close 1 2", 0, api.ErrScriptWord},
		{" @1 census x", 1, api.ErrScriptWord},
		{"@x pop", 0, api.ErrScriptNumber},
		{"@ pop", 0, api.ErrScriptNumber},
		{"@- pop", 0, api.ErrScriptNumber},
		{"@-0 pop", 0, api.ErrScriptNumber},
		{"@00 pop", 0, api.ErrScriptNumber},
		{"@01 pop", 0, api.ErrScriptNumber},
		{"@@1 pop", 0, api.ErrScriptNumber},
		{"@1@ pop", 0, api.ErrScriptNumber},
		{"@null pop", 0, api.ErrScriptNumber},
		{"@1099511627777 pop", 0, api.ErrScriptNumber},
		{"@18446744073709551617 pop", 0, api.ErrScriptNumber},
		{"\t@x push", 1, api.ErrScriptNumber},
		{"@x push x", 0, api.ErrScriptNumber},
		{"@x pop 1", 0, api.ErrScriptNumber},
		{"@1pop", 5, api.ErrScriptEnd},
		{"@1 push", 7, api.ErrScriptEnd},
		{"@1 push x", 8, api.ErrScriptNumber},
		{"@1 pop 1", 7, api.ErrScriptMore},
		{"pop @1", 4, api.ErrScriptMore},
		{"1 pop", 0, api.ErrScriptWord},
		{"-1 pop", 0, api.ErrScriptWord},
	} {
		faults(t, "P18.5: a thread", head+x.text, 2, x.at, x.e)
	}
	for text, thread := range map[string]int{"@0 pop": 0, "pop": 0, "@1 pop": 1, "@-1 pop": -1, "@1099511627776 pop": maxNumber, "@-1099511627776\tpop # x": -maxNumber} {
		want(t, "P18.5: "+text, parsed(t, "P18.5", text), []api.Op{{Kind: api.OpPop, Thread: thread}})
	}
}
