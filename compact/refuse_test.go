package compact_test

import (
	"fmt"
	"testing"

	"midden/api"
	"midden/cell"
)

// Every single word's mark more, and every single one's less, is refused.
func TestOneMarkMoreOrLess(t *testing.T) {
	for at := range 293 {
		x := example(t).mark(1, 9, 196)
		if fresh, _ := x.m.Set(at, 1); fresh {
			x.refused(t, fmt.Sprintf("the word %d is marked, too", at), api.ErrCompactMarks)
			continue
		}
		y := x.anew(t)
		for _, other := range wordsMarked(x.m) {
			if other != at {
				y.m.Set(other, 1)
			}
		}
		y.refused(t, fmt.Sprintf("the word %d isn't marked", at), api.ErrCompactMarks)
	}
}

// As many marks are too many as too few: they don't make up for one another.
func TestMarksThatMakeUp(t *testing.T) {
	for _, c := range []struct {
		what         string
		less, at, to int
	}{{"a filler's", 9, 12, 13}, {"the word 0", 9, 0, 0}, {"above a top", 9, 14, 16}, {"in an empty space", 9, 65, 67}, {"another object's", 1, 5, 7}, {"the last word", 9, 292, 292}} {
		x := example(t)
		x.m.Set(c.less, 1)
		for at := c.at; at <= c.to; at++ {
			x.m.Set(at, 1)
		}
		x.refused(t, c.what, api.ErrCompactMarks)
	}
}

func TestMapsOfOtherSizes(t *testing.T) {
	for _, words := range []int{0, 1, 64, 292, 294, 320, 1 << 20} {
		x := example(t)
		x.m = mapOf(t, words)
		x.refused(t, fmt.Sprintf("a map of %d words", words), api.ErrCompactMarks)
		x.mark(1, 9)
		x.refused(t, fmt.Sprintf("a map of %d words with marks", words), api.ErrCompactMarks)
	}
}

// A walk that fails is told first, whatever is marked; in each space.
func TestWalkThatFails(t *testing.T) {
	for _, space := range all {
		for _, word := range []uint64{0, cell.Forward(9), 1, cell.Filler(3), 1<<46 + 5} {
			x := example(t)
			x.fill(t, space, 2)
			x.a.SetWord(x.a.Top(space)-2, word)
			what := fmt.Sprintf("the word %d in space %d", word, space)
			x.refused(t, what, api.ErrArenaWalk)
			x.mark(1, 9)
			x.refused(t, what+", right marks", api.ErrArenaWalk)
			x.m.Set(0, 293)
			x.refused(t, what+", wrong marks", api.ErrArenaWalk)
			x.m = mapOf(t, 292)
			x.refused(t, what+", another map", api.ErrArenaWalk)
		}
	}
}

// What only looks like an object, within another one or above a top, is none.
func TestMarksOfWhatOnlyLooksLikeAnObject(t *testing.T) {
	meta, _ := cell.Pack(api.Head{Kind: api.Plain})
	x := example(t)
	at := x.lay(t, api.SpaceEden, 6)
	x.a.SetRaw(at, 2, meta)
	if _, ok := x.a.Head(at + 4); !ok {
		t.Fatal("nothing looks like an object")
	}
	x.m.Set(at+4, 2)
	x.refused(t, "within an object", api.ErrCompactMarks)
	x = example(t)
	x.fill(t, api.SpaceB, 4)
	x.a.SetWord(130, meta)
	x.m.Set(130, 2)
	x.refused(t, "within a filler", api.ErrCompactMarks)
	x = example(t)
	x.a.Cut(api.SpaceTenured, 196)
	x.m.Set(196, 2)
	x.refused(t, "above a top", api.ErrCompactMarks)
}
