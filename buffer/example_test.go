package buffer_test

import "testing"

// TestExamples: the chapter's two, one behind the other.
func TestExamples(t *testing.T) {
	m := made(t, 64, 2, 10)
	m.puts(t, "example 1", 0, 4, 1)
	m.rests(t, "example 1", 0, 5, 6)
	m.puts(t, "example 1", 1, 3, 11)
	m.rests(t, "example 1", 1, 14, 7)
	m.puts(t, "example 1", 0, 6, 5)
	m.rests(t, "example 1", 0, 0, 0)
	m.puts(t, "example 1", 0, 2, 21)
	m.rests(t, "example 1", 0, 23, 8)
	m.puts(t, "example 1", 0, 9, 31)
	m.rests(t, "example 1", 0, 40, 1)
	m.puts(t, "example 1", 1, 11, 41)
	m.rests(t, "example 1", 1, 14, 7)
	m.rooms(t, "example 1", 0, 13)
	m.rooms(t, "example 1", 1, 13)
	m.lies(t, "example 1", []int{1, 5, 11, 21, 31, 41}, [2]int{14, 7}, [2]int{23, 8}, [2]int{40, 1})

	m.puts(t, "example 2", 0, 10, 52)
	m.rests(t, "example 2", 0, 0, 0)
	m.lies(t, "example 2", []int{1, 5, 11, 21, 31, 41, 52}, [2]int{14, 7}, [2]int{23, 8}, [2]int{40, 1})
	m.puts(t, "example 2", 0, 3, 62)
	m.refuses(t, "example 2", 0, plain(2))
	m.puts(t, "example 2", 1, 7, 14)
	m.refuses(t, "example 2", 1, plain(2))
	m.b.Retire(m.a)
	m.rests(t, "example 2", 1, 0, 0)
	m.lies(t, "example 2", []int{1, 5, 11, 14, 21, 31, 41, 52, 62}, [2]int{23, 8}, [2]int{40, 1})
}
