package mutator_test

import (
	"errors"
	"fmt"
	"strings"
	"testing"

	"midden/api"
	"midden/mutator"
	"midden/script"
)

// played holds Play of a run's script to the replies of the run.
func (r *run) played(t *testing.T) {
	t.Helper()
	text, err := script.Print(api.Script{Config: r.m.c, Ops: r.ops})
	if err != nil {
		t.Fatalf("P18.8: %v", err)
	}
	got, err := mutator.Play(text)
	if err != nil {
		t.Fatalf("P19.4: %v", err)
	}
	lines := strings.SplitAfter(got, "\n")
	want(t, "P19.4: a line each", len(lines), len(r.ops)+1)
	for i, o := range r.ops {
		want(t, fmt.Sprintf("P19.4: %+v", o), lines[i], fmt.Sprintln(i+1, reported(o.Kind, r.replies[i])))
	}
}

// reported: P19.4's table.
func reported(kind int, r api.Reply) string {
	s := said(kind, r)
	for i, cycle := range r.Cycles {
		if i == 0 {
			s += " after"
		}
		s += " " + []string{"", "minor", "all", "major"}[cycle]
	}
	return s
}

func said(kind int, r api.Reply) string {
	if r.Err != api.OK {
		return fmt.Sprintf("error %d", int(r.Err))
	}
	switch kind {
	case api.OpAlloc, api.OpGet, api.OpHash:
		return fmt.Sprintf("word %d", r.Word)
	case api.OpSame:
		return map[bool]string{true: "yes", false: "no"}[r.Yes]
	case api.OpOpen, api.OpRetained:
		return fmt.Sprintf("number %d", r.Num)
	case api.OpShape:
		return "shape " + strings.Trim(fmt.Sprint(r.Nums), "[]")
	case api.OpCensus:
		return strings.Trim(fmt.Sprintf("census %v", r.Census[0])+fmt.Sprintf(" %v %v %v", r.Census[1], r.Census[2], r.Census[3]), " ")
	case api.OpAudit:
		return "audit " + strings.Trim(fmt.Sprint(r.Audit), "{}")
	case api.OpSites:
		s := "sites"
		for _, x := range r.Sites {
			s += fmt.Sprintf(" %d:%d:%d", x.Site, x.Objects, x.Words)
		}
		return s
	case api.OpDump:
		return fmt.Sprintf("image %d", len(r.Bytes))
	case api.OpPath:
		s := "path"
		for _, x := range r.Path {
			s += fmt.Sprintf(" %d", x)
		}
		return s
	}
	return "ok"
}

// TestPlayTells: each row of P19.4's table, and cycles behind one another.
func TestPlayTells(t *testing.T) {
	plays(t, "P19.4", told{"push 4", "ok"}, told{"alloc 0 plain 1 2 7", "word 1"}, told{"alloc 1 final 0 0 255", "word 2"}, told{"alloc 2 ephemeron 2 1 0", "word 3"},
		told{"put 0 1 18446744073709551615", "ok"}, told{"get 0 1", "word 18446744073709551615"}, told{"get 0 0", "word 0"}, told{"hash 1", "word 2"}, told{"hash 3", "error 140"},
		told{"same 0 0", "yes"}, told{"same 0 1", "no"}, told{"same 3 3", "yes"}, told{"open 3", "number 0"}, told{"open 0", "number 1"}, told{"open 0", "error 56"},
		told{"shape 0", "shape 1 1 2 7"}, told{"shape 1", "shape 4 0 0 255"}, told{"shape 2", "shape 3 2 1 0"},
		told{"store 0 0 1", "ok"}, told{"path 1", "path 1 2"}, told{"path 0", "path 1"}, told{"path 2", "path"}, told{"path 3", "error 140"},
		told{"retained 0", "number 5"}, told{"clear 1", "ok"}, told{"retained 0", "number 7"}, told{"retained 2", "number 5"}, told{"retained 3", "error 140"},
		told{"census", "census [1 2 3] [] [] []"}, told{"audit", "audit 12 0 12 0 0 50"}, told{"sites", "sites 0:1:5 7:1:5 255:1:2"},
		// 4 bytes at the beginning and 4 at the end, 2 ahead of the objects, these 17, 6 and 8, 11 behind them.
		told{"dump", "image 52"}, told{"close 0", "ok"}, told{"fetch 3 1", "ok"}, told{"copy 1 3", "ok"}, told{"copy 1 null", "ok"}, told{"load 1 0 0", "ok"}, told{"hash 1", "word 2"},
		told{"minor", "ok after minor"}, told{"all", "ok after all"}, told{"major", "ok after major"}, told{"census", "census [] [] [] [1 2 3]"}, told{"take 1", "error 143"}, told{"pop", "ok"}, told{"sites", "sites 0:1:5 7:1:5 255:1:2"})
	plays(t, "P19.4: nothing there", told{"census", "census [] [] [] []"}, told{"audit", "audit 0 0 0 0 0 50"}, told{"sites", "sites"}, told{"dump", "image 16"})
}

// TestPlayTellsCycles: several in one line, beside a word, an ok and an error.
func TestPlayTellsCycles(t *testing.T) {
	line := strings.NewReplacer("large 64", "large 20", "floor 50", "floor 100").Replace(smallText)
	full := []told{{"push 8", "ok"}, {"alloc 0 plain 0 18 0", "word 1"}, {"alloc 1 plain 0 18 0", "word 2"}, {"alloc 2 plain 0 18 0", "word 3"},
		{"alloc 3 plain 0 9 0", "word 4"}, {"alloc 4 plain 0 9 0", "word 5"}, {"alloc 5 plain 0 9 0", "word 6"}, {"alloc 6 plain 0 9 0", "word 7"}, {"alloc 7 plain 0 9 0", "word 8"}}
	with := func(more ...told) []told { return append(full[:len(full):len(full)], more...) }
	playsIn(t, "P19.4", line, with(told{"alloc 0 plain 0 8 0", "error 142 after major"})...)
	playsIn(t, "P19.4", line, with(told{"clear 0", "ok"}, told{"alloc 0 plain 0 8 0", "word 9 after major all"})...)
	playsIn(t, "P19.4", line, with(told{"clear 0", "ok"}, told{"minor", "ok after major minor"})...)
	playsIn(t, "P19.4", line, with(told{"clear 0", "ok"}, told{"all", "ok after major all"})...)
	line = strings.Replace(smallText, "floor 50", "floor 0", 1)
	playsIn(t, "P19.4", line, told{"push 1", "ok"}, told{"alloc 0 plain 0 8 0", "word 1"}, told{"all", "ok after all major"})
	line = strings.Replace(line, "age 2", "age 1", 1)
	playsIn(t, "P19.4", line, told{"push 2", "ok"}, told{"alloc 0 plain 0 8 0", "word 1"}, told{"minor", "ok after minor"}, told{"minor", "ok after minor major"},
		told{"alloc 1 plain 0 60 0", "word 2"}, told{"alloc 1 plain 0 1 0", "word 3 after minor"})
}

// TestPlayScripts: repeats, threads, comments and lines without words are the script's business alone; of no operation nothing is told.
func TestPlayScripts(t *testing.T) {
	line := strings.Replace(smallText, "threads 1", "threads 2", 1)
	got, err := mutator.Play("\n# a heap\n" + line + "repeat 2\n\t@1 push 1 # on thread 1\nend\n\n@1 alloc 0 plain 0 0 0\n@0 pop\nend" + "# not the word end")
	want(t, "P19.4: an end without a repeat", fmt.Sprintf("%q %v", got, err), `"" line 10, byte 0: midden: error 181`)
	got, err = mutator.Play("\n# a heap\n" + line + "repeat 2\n\t@1 push 1 # on thread 1\nend\n\n@1 alloc 0 plain 0 0 0\n@0 pop")
	want(t, "P19.4", fmt.Sprintf("%q %v", got, err), `"1 ok\n2 ok\n3 word 1\n4 error 54\n" <nil>`)
	for _, text := range []string{smallText, smallText + "\n\n# nothing\n", strings.TrimSuffix(smallText, "\n")} {
		got, err = mutator.Play(text)
		want(t, "P19.4: no operations", fmt.Sprintf("%q %v", got, err), `"" <nil>`)
	}
}

// TestPlayNumbers: operations are numbered from 1 on to the last one that there may be.
func TestPlayNumbers(t *testing.T) {
	got, err := mutator.Play(smallText + "repeat 1000\nminor\nclose 5\ncensus\nhash 0\nend\n")
	if err != nil {
		t.Fatal(err)
	}
	lines := strings.Split(got, "\n")
	want(t, "P19.4: lines", len(lines), 4001)
	for i, s := range []string{"ok after minor", "error 55", "census [] [] [] []", "error 54"} {
		for n := i; n < 4000; n += 4 {
			want(t, "P19.4", lines[n], fmt.Sprintf("%d %s", n+1, s))
		}
	}
	want(t, "P19.4: behind the last one", lines[4000], "")
}

// TestPlayRefuses: script.Parse's errors, and configurations that may not be at line 1, byte 0, wherever they stand.
func TestPlayRefuses(t *testing.T) {
	rows := []struct {
		text     string
		line, at int
		e        api.Errno
	}{
		{"", 1, 0, api.ErrScriptEnd},
		{"push 3", 1, 0, api.ErrScriptWord},
		{smallText + "push 3\npusch 3\n", 3, 0, api.ErrScriptWord},
		{smallText + "push 3\n pop 3", 3, 5, api.ErrScriptMore},
		{smallText + "push 3x", 2, 5, api.ErrScriptNumber},
		{smallText + "push", 2, 4, api.ErrScriptEnd},
		{smallText + "repeat 1000\npop\npop\npop\npop\npop\nend", 8, 0, api.ErrScriptMany},
		{smallText + strings.Repeat(" ", 65536), 1, 0, api.ErrScriptLong},
		{strings.Replace(smallText, "eden 64", "eden 63", 1) + "push 3\npusch", 3, 0, api.ErrScriptWord},
		{"\n\n# a heap\n " + strings.Replace(smallText, "eden 64", "eden 63", 1), 1, 0, api.ErrArenaConfig},
	}
	for _, x := range [][2]string{{"eden 64", "eden 63"}, {"survivor 64", "survivor 65537"}, {"tenured 100", "tenured -1"}, {"large 64", "large 1"}, {"floor 50", "floor 65537"}, {"ratio 2 1", "ratio 1 2"}, {"ratio 2 1", "ratio 2 0"},
		{"target 50", "target 101"}, {"age 2", "age 16"}, {"threads 1", "threads 9"}, {"slots 8", "slots 0"}, {"handles 2", "handles 1025"}, {"buffer 0", "buffer 65"}, {"workers 1", "workers 0"}} {
		rows = append(rows, struct {
			text     string
			line, at int
			e        api.Errno
		}{strings.Replace(smallText, x[0], x[1], 1) + "push 1\n", 1, 0, api.ErrArenaConfig})
	}
	for _, x := range rows {
		got, err := mutator.Play(x.text)
		m, ok := err.(*api.Misread)
		if !ok || got != "" {
			t.Errorf("P19.4: Play(%.200q): %q, %v", x.text, got, err)
			continue
		}
		want(t, fmt.Sprintf("P19.4: Play(%.200q)", x.text), fmt.Sprint(m.Line, m.At, m.Err == error(x.e), errors.Is(err, x.e)), fmt.Sprint(x.line, x.at, true, true))
	}
}
