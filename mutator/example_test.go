package mutator_test

import (
	"strconv"
	"strings"
	"testing"

	"midden/mutator"
)

// told: a line of a script, and what Play tells of it.
type told struct {
	line, reply string
}

// plays holds Play to what it is to tell of lines behind the examples' configuration.
func plays(t *testing.T, what string, lines ...told) {
	t.Helper()
	playsIn(t, what, smallText, lines...)
}

func playsIn(t *testing.T, what, config string, lines ...told) {
	t.Helper()
	text := config
	for _, x := range lines {
		text += x.line + "\n"
	}
	got, err := mutator.Play(text)
	if err != nil {
		t.Fatalf("%s: %v", what, err)
	}
	replies := strings.SplitAfter(got, "\n")
	if len(replies) != len(lines)+1 || replies[len(lines)] != "" {
		t.Fatalf("%s: %d lines for %d operations:\n%s", what, len(replies)-1, len(lines), got)
	}
	for i, x := range lines {
		want(t, what+": "+x.line, replies[i], strconv.Itoa(i+1)+" "+x.reply+"\n")
	}
}

// The chapter's examples 1 to 5: each goes on where the one ahead of it ends.
var (
	example1 = []told{
		{"push 3", "ok"}, {"alloc 0 plain 1 8 5", "word 1"},
		{"alloc 1 plain 1 8 5", "word 2"}, {"alloc 1 plain 1 8 5", "word 3"}, {"alloc 1 plain 1 8 5", "word 4"}, {"alloc 1 plain 1 8 5", "word 5"}, {"alloc 1 plain 1 8 5", "word 6 after minor"},
		{"census", "census [6] [] [1 5] []"}, {"audit", "audit 22 11 33 0 0 50"},
	}
	example2 = []told{
		{"store 0 0 1", "ok"}, {"clear 1", "ok"}, {"load 2 0 0", "ok"}, {"hash 2", "word 6"}, {"get 2 8", "error 141"},
		{"retained 0", "number 11"}, {"path 2", "path 1 6"}, {"clear 2", "ok"}, {"retained 0", "number 22"}, {"path 0", "path"},
	}
	example3 = []told{
		{"major", "ok after major"}, {"census", "census [6] [] [1] []"}, {"alloc 1 weak 1 0 0", "word 7"}, {"store 1 0 0", "ok"}, {"clear 0", "ok"},
		{"minor", "ok after minor"}, {"load 0 1 0", "ok"}, {"hash 0", "word 1"}, {"clear 0", "ok"}, {"major", "ok after major"}, {"load 0 1 0", "ok"}, {"hash 0", "error 140"},
	}
	example4 = []told{
		{"alloc 0 final 0 0 9", "word 8"}, {"clear 0", "ok"}, {"take 0", "error 143"}, {"major", "ok after major"}, {"take 0", "ok"}, {"shape 0", "shape 1 0 0 9"},
	}
	example5 = []told{
		{"alloc 2 plain 0 62 0", "word 9 after major"}, {"alloc 2 plain 0 62 0", "error 142 after major"}, {"hash 2", "word 9"}, {"pop", "ok"}, {"pop", "error 54"},
	}
)

func TestExamples(t *testing.T) {
	var lines []told
	for i, example := range [][]told{example1, example2, example3, example4, example5} {
		lines = append(lines, example...)
		plays(t, "example "+strconv.Itoa(i+1), lines...)
	}
}

func TestExample6(t *testing.T) {
	plays(t, "example 6",
		told{"alloc 0 plain 0 0 0", "error 54"}, told{"push 8", "ok"}, told{"push 1", "error 53"}, told{"alloc 0 weak 0 0 0", "error 20"},
		told{"alloc 0 plain 0 65535 0", "error 142 after major"}, told{"all", "ok after all"})
}
