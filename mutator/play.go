package mutator

import (
	"errors"
	"strconv"
	"strings"

	"midden/api"
	"midden/script"
)

// Play does a script's text and tells all replies.
func Play(text string) (string, error) {
	m, ops, err := begin(text)
	if errors.Is(err, api.ErrArenaConfig) {
		// The text has no fault, what it asks for has: that stands at no place of its own.
		return "", &api.Misread{Line: 1, Err: err}
	}
	if err != nil {
		return "", err
	}
	var told strings.Builder
	for i, o := range ops {
		told.WriteString(line(i+1, o.Kind, m.Do(o)))
	}
	return told.String(), nil
}

// begin tells what a text asks for: a mutator that has done nothing, and the operations. Its error is that of the text, with its place, or that of the heap, which has none.
func begin(text string) (*Mutator, []api.Op, error) {
	s, err := script.Parse(text)
	if err != nil {
		return nil, nil, err
	}
	m, e := New(s.Config)
	if e != api.OK {
		return nil, nil, e
	}
	return m, s.Ops, nil
}

// line tells the reply to the operation of that number.
func line(number, kind int, r api.Reply) string {
	told := "error " + strconv.Itoa(int(r.Err))
	if r.Err == api.OK {
		told = operationOf(kind).told(r)
	}
	return strconv.Itoa(number) + " " + told + after(r.Cycles) + "\n"
}

// after tells the cycles that were run; nothing, if none was.
func after(cycles []int) string {
	if len(cycles) == 0 {
		return ""
	}
	told := " after"
	for _, which := range cycles {
		told += " " + nameOf(which)
	}
	return told
}

func nameOf(cycle int) string {
	switch cycle {
	case api.CycleMinor:
		return "minor"
	case api.CycleAll:
		return "all"
	}
	return "major"
}
