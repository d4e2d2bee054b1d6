package compact_test

import (
	"testing"

	"midden/api"
)

// example: the chapter's memory.
func example(t *testing.T) *memory {
	t.Helper()
	x := made(t, small())
	x.lay(t, api.SpaceEden, 0, 9, 5)
	x.lay(t, api.SpaceEden, 2)
	x.lay(t, api.SpaceEden, 0, 1)
	x.fill(t, api.SpaceEden, 2)
	x.lay(t, api.SpaceTenured, 0, 9)
	x.lay(t, api.SpaceTenured, 0)
	return x
}

func TestExample1(t *testing.T) {
	x := example(t).mark(1, 9, 196)
	x.plan(t, api.Move{From: 1, To: 1, Words: 4}, api.Move{From: 9, To: 5, Words: 3}, api.Move{From: 196, To: 193, Words: 2})
	x.tops(t, 14, 65, 129, 198)
	to := x.slide(t)
	x.tops(t, 8, 65, 129, 195)
	x.fields(t, "P11.3", 1, 5, 0)
	x.fields(t, "P11.3", 5, 1)
	x.fields(t, "P11.3", 193)
	goes(t, to, 293, map[int]int{1: 1, 9: 5, 196: 193})
}

func TestExample2(t *testing.T) {
	x := example(t)
	x.m.Set(1, 3)
	x.refused(t, "the words 1 to 3", api.ErrCompactMarks)
	x = example(t).mark(1)
	x.m.Set(12, 1)
	x.refused(t, "the word 12 as well", api.ErrCompactMarks)
	x = example(t)
	x.m.Set(1, 3)
	x.m.Set(12, 1)
	x.refused(t, "the words 1 to 3, and 12 as well", api.ErrCompactMarks)
	x = example(t)
	x.plan(t)
	to := x.slide(t)
	x.tops(t, 1, 65, 129, 193)
	goes(t, to, 293, nil)
}
