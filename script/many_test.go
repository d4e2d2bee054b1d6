package script_test

import (
	"strings"
	"testing"

	"midden/api"
)

func times(n int, line string) string { return strings.Repeat(line+"\n", n) }

func TestMostOperations(t *testing.T) {
	for _, x := range []struct {
		text string
		n    int
	}{
		{times(maxOps, "pop"), maxOps},
		{times(maxOps, "pop") + "# x\n \n", maxOps},
		{"repeat 1000\n" + times(4, "pop") + "end", maxOps},
		{"repeat 1\n" + times(maxOps, "pop") + "end", maxOps},
		{"repeat 2\n" + times(maxOps/2, "pop") + "end\n", maxOps},
		{"repeat 3\n" + times(1333, "pop") + "end", maxOps - 1},
		{"repeat 3\n" + times(1333, "pop") + "end\npop", maxOps},
		{times(maxOps-1, "pop") + "repeat 1\npop\nend", maxOps},
		{times(maxOps-2, "pop") + "repeat 2\npop\nend", maxOps},
		{times(maxOps-1000, "pop") + "repeat 1000\npop\nend", maxOps},
		{times(4, "repeat 1000\npop\nend"), maxOps},
		{times(maxOps, "pop") + "repeat 1000\nend", maxOps},
		{times(maxOps, "pop") + times(50, "repeat 3\nend"), maxOps},
		{"repeat 1000\n" + times(3, "pop") + "end\nrepeat 2\n" + times(500, "pop") + "end", maxOps},
	} {
		want(t, "P18.6: as many as there may be", len(parsed(t, "P18.6", x.text)), x.n)
		want(t, "P18.9: as many as there may be", len(ops(head+x.text)), x.n)
	}
}

func TestTooManyOperations(t *testing.T) {
	many, full := api.ErrScriptMany, times(maxOps, "pop")
	repeated := "repeat 1000\n" + times(4, "pop") + "end\n"
	for _, x := range []struct {
		text     string
		line, at int
		e        api.Errno
		given    int
	}{
		{full + "pop", maxOps + 2, 0, many, maxOps},
		{full + "\n \t@1 pop", maxOps + 3, 2, many, maxOps},
		{full + times(100, "pop"), maxOps + 2, 0, many, maxOps},
		{repeated + "census", 8, 0, many, maxOps},
		{repeated + "  major", 8, 2, many, maxOps},
		// Ahead of the faults of the words behind the name.
		{repeated + "push", 8, 0, many, maxOps},
		{repeated + "push x", 8, 0, many, maxOps},
		{repeated + " push 1 2", 8, 1, many, maxOps},
		{repeated + "@1 push x", 8, 0, many, maxOps},
		{repeated + "alloc 0 hard", 8, 0, many, maxOps},
		{repeated + "pop x", 8, 0, many, maxOps},
		// Behind those of the name and of the thread.
		{repeated + "x", 8, 0, api.ErrScriptWord, maxOps},
		{repeated + "@1 x", 8, 3, api.ErrScriptWord, maxOps},
		{repeated + "@1", 8, 2, api.ErrScriptEnd, maxOps},
		{repeated + "@1 major", 8, 0, api.ErrScriptWord, maxOps},
		{repeated + "@x push", 8, 0, api.ErrScriptNumber, maxOps},
		{repeated + "end", 8, 0, api.ErrScriptWord, maxOps},
		{repeated + "heap", 8, 0, api.ErrScriptWord, maxOps},
		{repeated + "repeat 0", 8, 7, api.ErrScriptNumber, maxOps},
		{repeated + "repeat 2", 8, 8, api.ErrScriptEnd, maxOps},
		// Within a repeat the body counts once, till its end.
		{repeated + "repeat 3\nall", 9, 0, many, maxOps},
		{repeated + "repeat 1\n\n@1 push\nend", 10, 0, many, maxOps},
		{times(maxOps-1, "pop") + "repeat 1\npop\nall\nend", maxOps + 3, 0, many, maxOps - 1},
		{times(maxOps-1, "pop") + "repeat 2\npop\nend", maxOps + 3, 0, many, maxOps - 1},
		{times(maxOps-1, "pop") + "repeat 2\npop\n @0 all x\nend", maxOps + 3, 1, api.ErrScriptWord, maxOps - 1},
		{times(maxOps-1, "pop") + "repeat 2\npop\n @0 push x\nend", maxOps + 3, 1, many, maxOps - 1},
		{"repeat 1\n" + times(maxOps+1, "pop") + "end", maxOps + 3, 0, many, 0},
		{"repeat 1000\n" + times(maxOps, "pop") + "pop\nend", maxOps + 3, 0, many, 0},
		{"repeat 1000\n" + times(maxOps, "pop") + "end", maxOps + 3, 0, many, 0},
		{"repeat 1000\n" + times(5, "pop") + "end", 8, 0, many, 0},
		{"repeat 1000\n" + times(5, "pop") + "push\nend", 8, 4, api.ErrScriptEnd, 0},
		{"repeat 1000\n" + times(5, "pop") + "x\nend", 8, 0, api.ErrScriptWord, 0},
		{"repeat 1000\n" + times(5, "pop"), 8, 0, api.ErrScriptEnd, 0},
		{"repeat 1000\n" + times(5, "pop") + " end x", 8, 1, many, 0},
		{"repeat 2\n" + times(2001, "pop") + "end", 2004, 0, many, 0},
		{"repeat 3\n" + times(1334, "pop") + "end\npop", 1337, 0, many, 0},
		{"pop\nrepeat 1000\n" + times(4, "pop") + "\tend # x", 8, 1, many, 1},
		{times(4, "repeat 1000\npop\nend") + "pop", 14, 0, many, maxOps},
		{times(5, "repeat 1000\npop\nend"), 15, 0, many, maxOps},
	} {
		faults(t, "P18.6", head+x.text, x.line, x.at, x.e)
		want(t, "P18.9: ahead of too many", len(ops(head+x.text)), x.given)
	}
}
