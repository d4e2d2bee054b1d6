package script_test

import (
	"iter"
	"strings"
	"sync"
	"testing"

	"midden/api"
	"midden/script"
)

func TestOpsLines(t *testing.T) {
	for _, x := range []struct {
		text  string
		lines []int
	}{
		{"", nil},
		{"pop", []int{2}},
		{"\n\npop # x\n \npop\n", []int{4, 6}},
		{"repeat 3\npop\nend\npop", []int{3, 3, 3, 5}},
		{"pop\n\nrepeat 2\n# x\npop\n\nall\nend\n", []int{2, 6, 8, 6, 8}},
		{"repeat 5\nend\npop", []int{4}},
		{"repeat 1\npop\nend\nrepeat 2\nall\nend", []int{3, 6, 6}},
	} {
		want(t, "P18.9: lines", lines(ops(head+x.text)), x.lines)
		want(t, "P18.11: operations", behind(ops(head+x.text)), parsed(t, "P18.11", x.text))
	}
	want(t, "P18.9: lines ahead of the configuration count", lines(ops("# x\n\n"+head+"pop\nall")), []int{4, 5})
}

// What stands ahead of the faulty line is given; of a repeat that is faulty, nothing.
func TestOpsUpToTheFault(t *testing.T) {
	for _, x := range []struct {
		text  string
		lines []int
	}{
		{"x", nil},
		{"pop\nx", []int{2}},
		{"pop\npop x", []int{2}},
		{"pop\npush\npop", []int{2}},
		{"pop\npush x\npop", []int{2}},
		{"pop\n@x pop", []int{2}},
		{"pop\n@1", []int{2}},
		{"pop\n@1 major", []int{2}},
		{"pop\nheap", []int{2}},
		{"pop\nend\npop", []int{2}},
		{"pop\nrepeat", []int{2}},
		{"pop\nrepeat 0\npop\nend", []int{2}},
		{"pop\nrepeat 2 2\npop\nend", []int{2}},
		{"pop\nrepeat 2", []int{2}},
		{"pop\nrepeat 2\n", []int{2}},
		{"pop\nrepeat 2\npop", []int{2}},
		{"pop\nrepeat 2\npop\n\n# x\n", []int{2}},
		{"pop\nrepeat 2\npop\nx\nend", []int{2}},
		{"pop\nrepeat 2\npop\npush\nend", []int{2}},
		{"pop\nrepeat 2\npop\nall x\nend", []int{2}},
		{"pop\nrepeat 2\npop\nrepeat 2\nend", []int{2}},
		{"pop\nrepeat 2\npop\nheap\nend", []int{2}},
		{"pop\nrepeat 2\npop\nend x", []int{2}},
		{"pop\nrepeat 2\nx", []int{2}},
		{"pop\nrepeat 2\npop\nend\nx", []int{2, 4, 4}},
		{"repeat 2\npop\nend\nend", []int{3, 3}},
		{"repeat 2\npop\nend\nrepeat 2\nall\n", []int{3, 3}},
		{"repeat 2\npop\nend\nrepeat 2\nall\nend 1\npop", []int{3, 3}},
		{"repeat 2\npop\nend\nall\nrepeat 2\npop\nall", []int{3, 3, 5}},
		{"repeat 2\nend\npop\nx\npop", []int{4}},
	} {
		if fault(t, head+x.text) == (place{}) {
			t.Errorf("%q has no fault", x.text)
		}
		want(t, "P18.9: "+x.text, lines(ops(head+x.text)), x.lines)
	}
}

// leaves goes through an iterator, and leaves it behind n operations; it counts how often yield is called.
func leaves(seq iter.Seq2[int, api.Op], n int) ([]given, int) {
	var l []given
	calls := 0
	seq(func(line int, o api.Op) bool {
		calls++
		l = append(l, given{line, o})
		return calls < n
	})
	return l, calls
}

func TestOpsLeft(t *testing.T) {
	for _, text := range []string{example, example + "x", head + "pop\nrepeat 3\nall\nmajor\nend\npop\nrepeat 2\npop"} {
		seq := script.Ops(text)
		whole := ops(text)
		for n := 1; n <= len(whole); n++ {
			l, calls := leaves(seq, n)
			want(t, "P18.9: left early", []any{l, calls}, []any{whole[:n], n})
			again, _ := leaves(seq, len(whole)+1)
			want(t, "P18.9: gone through again", again, whole)
		}
	}
}

func TestOpsWithin(t *testing.T) {
	seq := script.Ops(example)
	whole := ops(example)
	for range 2 {
		var l []given
		for line, o := range seq {
			inner, _ := leaves(seq, 3)
			want(t, "P18.9: gone through within", inner, whole[:3])
			l = append(l, given{line, o})
		}
		want(t, "P18.9: gone through about another", l, whole)
	}
	next, stop := iter.Pull2(seq)
	line, o, ok := next()
	want(t, "P18.9: pulled", []any{given{line, o}, ok}, []any{whole[0], true})
	stop()
	_, _, ok = next()
	want(t, "P18.9: pulled behind its end", ok, false)
}

func TestOpsAtOnce(t *testing.T) {
	seq := script.Ops(example)
	whole := ops(example)
	said := make([][]given, 16)
	var group sync.WaitGroup
	for i := range said {
		group.Add(1)
		go func() {
			defer group.Done()
			said[i], _ = leaves(seq, 1+i%len(whole))
		}()
	}
	group.Wait()
	for i, l := range said {
		want(t, "P18.9: several at once", l, whole[:1+i%len(whole)])
	}
}

// An iterator is never nil, and an answered error, list or text is the caller's own.
func TestAnswersAreNew(t *testing.T) {
	for _, text := range []string{"", "x", strings.Repeat("x", maxText+1), head} {
		seq := script.Ops(text)
		if seq == nil {
			t.Fatalf("rule 8: no iterator for %.20q", text)
		}
		want(t, "P18.9: nothing to give", ops(text), "[]")
	}
	first, _ := script.Parse(example)
	second, _ := script.Parse(example)
	list := first.Ops[:cap(first.Ops)]
	for i := range list {
		list[i] = api.Op{Kind: 99}
	}
	_ = append(first.Ops, api.Op{Kind: 99})
	want(t, "rule 3: another answer", second.Ops, exampleOps())
	third, _ := script.Parse(example)
	want(t, "rule 3: a later answer", third.Ops, exampleOps())
	want(t, "rule 3: what Ops gives", behind(ops(example)), exampleOps())

	_, one := script.Parse("x")
	_, two := script.Parse("x")
	*one.(*api.Misread) = api.Misread{Line: 9, At: 9, Err: api.ErrBagFull}
	want(t, "rule 4: an error that was answered", two, &api.Misread{Line: 1, At: 0, Err: api.ErrScriptWord})
	faults(t, "rule 4: a later error", "x", 1, 0, api.ErrScriptWord)
}

// What Print is handed stays, its spare room too.
func TestHandedInStays(t *testing.T) {
	spare := api.Op{Kind: 77, A: 78}
	for _, bad := range []int{0, maxNumber + 1} {
		list := append(exampleOps(), spare, spare)
		list[2].A += bad
		is := append([]api.Op{}, list...)
		s := api.Script{Config: config(), Ops: list[:7]}
		script.Print(s)
		script.Print(s)
		want(t, "rule 3: the list", list, is)
		want(t, "rule 3: the script", s, api.Script{Config: config(), Ops: is[:7]})
	}
}
