package buffer_test

import (
	"fmt"
	"testing"

	"midden/api"
)

// TestRoom: the greater one of the two, whichever it is.
func TestRoom(t *testing.T) {
	m := made(t, 64, 2, 30)
	m.puts(t, "P13.4", 0, 4, 1)
	m.rooms(t, "P13.4: eden's free words", 0, 34)
	m.rooms(t, "P13.4: without a buffer", 1, 34)
	for _, x := range []struct{ fill, room int }{{7, 27}, {1, 26}, {1, 26}, {20, 26}, {5, 26}} {
		m.a.Fill(api.SpaceEden, x.fill)
		m.rooms(t, "P13.4: the greater one", 0, x.room)
		m.rooms(t, "P13.4: another's rest isn't this one's", 1, m.a.Free(api.SpaceEden))
	}
	m.puts(t, "P13.4", 0, 26, 5)
	m.rooms(t, "P13.4: neither", 0, 0)
	for _, thread := range append([]int{2}, odd...) {
		m.rooms(t, "P13.4: no such thread", thread, 0)
	}
}

// TestPutJustIfRoom: of every size, behind every rest and every top, by words of both kinds of fields.
func TestPutJustIfRoom(t *testing.T) {
	for _, size := range []int{0, 1, 2, 3, 9, 30, 64, 65536} {
		for first := 2; first <= 12; first += 5 {
			for fill := 0; fill < 64; fill += 3 {
				for words := 2; words <= 66; words++ {
					m := made(t, 64, 1, size)
					m.b.Put(m.a, 0, plain(first))
					m.a.Fill(api.SpaceEden, fill)
					room := m.b.Room(m.a, 0)
					_, ok := m.b.Put(m.a, 0, api.Head{Kind: api.Plain, Ptrs: (words - 2) / 2, Raws: (words - 1) / 2})
					if ok != (words <= room) {
						t.Fatalf("P13.4: size %d, an object of %d, a filler of %d: Room %d, Put of %d: %v", size, first, fill, room, words, ok)
					}
				}
			}
		}
	}
}

// TestAskingChangesNothing: Room and Rest, and as often as one likes.
func TestAskingChangesNothing(t *testing.T) {
	m := made(t, 64, 2, 10)
	m.puts(t, "P13.3", 0, 3, 1)
	was := m.state()
	for _, thread := range append([]int{0, 0, 1, 1, 2}, odd...) {
		m.b.Room(m.a, thread)
		m.b.Rest(thread)
	}
	m.stays(t, "P13.2, P13.4", was)
}

func TestRetire(t *testing.T) {
	m := made(t, 128, 4, 10)
	m.b.Retire(m.a)
	m.lies(t, "P13.5: without buffers", nil)
	for thread := range 3 {
		m.puts(t, "P13.5", thread, 3+thread, 1+10*thread)
	}
	was := m.state()
	was.rests = [8][2]int{}
	for range 2 {
		m.b.Retire(m.a)
		m.stays(t, "P13.5: but for the buffers nothing changes", was)
	}
	m.lies(t, "P13.5", []int{1, 11, 21}, [2]int{4, 7}, [2]int{15, 6}, [2]int{26, 5})
	for thread := range 4 {
		m.rooms(t, "P13.5", thread, 98)
	}
	m.puts(t, "P13.5: a new one", 2, 2, 31)
	m.rests(t, "P13.5: a new one", 2, 33, 8)
	m.rests(t, "P13.5: the others have none", 0, 0, 0)
}

// TestCutBehindRetire: what a cycle does: eden is emptied, and the buffers begin anew.
func TestCutBehindRetire(t *testing.T) {
	m := made(t, 64, 2, 20)
	for range 3 {
		m.puts(t, "P13.5", 0, 3, 1)
		m.puts(t, "P13.5", 1, 4, 21)
		m.puts(t, "P13.5", 0, 17, 4)
		m.b.Retire(m.a)
		m.a.Cut(api.SpaceEden, 1)
		m.a.Swap()
		m.lies(t, "P13.5", nil)
	}
}

// TestTwoMemories don't touch one another.
func TestTwoMemories(t *testing.T) {
	m, other := made(t, 64, 2, 10), made(t, 64, 2, 10)
	other.puts(t, "P13.3", 0, 3, 1)
	was := other.state()
	m.puts(t, "P13.3", 0, 4, 1)
	m.puts(t, "P13.3", 1, 5, 11)
	m.b.Retire(m.a)
	other.stays(t, "two memories", was)
}

// TestSpentIsObjectsAndFillers: P13.7, and with size 0 there are no fillers.
func TestSpentIsObjectsAndFillers(t *testing.T) {
	d := dice(137)
	for _, size := range []int{0, 2, 7, 10, 33, 300} {
		m := made(t, 1000, 8, size)
		objects := 0
		for range 400 {
			h := d.head(8)
			if _, ok := m.b.Put(m.a, d.below(8), h); ok {
				objects += 2 + h.Ptrs + h.Raws
			}
		}
		fillers := 0
		for _, x := range m.things() {
			if x.filler {
				fillers += x.words
			}
		}
		want(t, fmt.Sprintf("P13.7: what is taken, with size %d", size), m.a.Top(api.SpaceEden)-1, objects+fillers)
		if size == 0 {
			want(t, "P13.7: fillers, with size 0", fillers, 0)
		}
	}
}

// TestHowManyBuffers: k objects of n words take as many as are needed for k.
func TestHowManyBuffers(t *testing.T) {
	for size := 2; size <= 24; size++ {
		for n := 2; n <= size; n++ {
			m := made(t, 600, 2, size)
			each := size / n
			for k := 1; (k+each-1)/each*size <= 600; k++ {
				buffers := (k + each - 1) / each
				m.puts(t, "P13.7", 0, n, 1+(buffers-1)*size+(k-1)%each*n)
				want(t, fmt.Sprintf("P13.7: %d of %d words, size %d", k, n, size), m.a.Top(api.SpaceEden)-1, buffers*size)
			}
		}
	}
}
