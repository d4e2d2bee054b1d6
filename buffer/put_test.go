package buffer_test

import (
	"fmt"
	"testing"

	"midden/api"
	"midden/cell"
)

// wrong are heads that may not be.
var wrong = []api.Head{
	{}, {Kind: 5}, {Kind: -1}, {Kind: api.Weak}, {Kind: api.Ephemeron, Ptrs: 1},
	{Kind: api.Plain, Ptrs: -1}, {Kind: api.Plain, Ptrs: 4096}, {Kind: api.Plain, Raws: -1}, {Kind: api.Plain, Raws: 65536},
	{Kind: api.Plain, Ptrs: -2, Raws: 5}, {Kind: api.Plain, Ptrs: 5, Raws: -2}, {Kind: api.Plain, Ptrs: greatest, Raws: greatest},
	{Kind: api.Plain, Ptrs: least}, {Kind: api.Plain, Raws: least}, {Kind: api.Plain, Raws: greatest},
	{Kind: api.Plain, Age: 16}, {Kind: api.Plain, Age: -1}, {Kind: api.Plain, Site: 256}, {Kind: api.Plain, Site: -1},
}

func TestPutRefusesHeads(t *testing.T) {
	for _, size := range []int{0, 20, 65536} {
		m := made(t, 64, 2, size)
		for i := range 2 { // without a buffer, and with one
			for _, h := range wrong {
				m.refuses(t, "P13.3: a head that may not be", 0, h)
				m.refuses(t, "P13.3: a head that may not be", 1, h)
				m.refuses(t, "P13.3: neither head nor thread", 2, h)
			}
			m.puts(t, "P13.3", 0, 5, 1+5*i)
		}
	}
}

// TestIntoTheRest: 1, at its edges.
func TestIntoTheRest(t *testing.T) {
	for words := 2; words <= 7; words++ {
		m := made(t, 64, 2, 10)
		m.puts(t, "P13.3.1", 0, 3, 1)
		m.puts(t, "P13.3.1", 0, words, 4)
		if words == 7 {
			m.rests(t, "P13.3.1: all of it", 0, 0, 0)
			m.lies(t, "P13.3.1: all of it", []int{1, 4})
		} else {
			m.rests(t, "P13.3.1", 0, 4+words, 7-words)
			m.lies(t, "P13.3.1", []int{1, 4}, [2]int{4 + words, 7 - words})
		}
		want(t, "P13.3.1: nothing more of eden is taken", m.a.Top(api.SpaceEden), 11)
	}
}

// TestNewBuffer: 2, at its edges: one word more than the rest, up to size.
func TestNewBuffer(t *testing.T) {
	for words := 8; words <= 10; words++ {
		m := made(t, 64, 2, 10)
		m.puts(t, "P13.3.2", 0, 3, 1)
		m.puts(t, "P13.3.2", 0, words, 11)
		want(t, "P13.3.2: a whole buffer", m.a.Top(api.SpaceEden), 21)
		if words == 10 {
			m.rests(t, "P13.3.2: all of it", 0, 0, 0)
			m.lies(t, "P13.3.2: all of it", []int{1, 11}, [2]int{4, 7})
		} else {
			m.rests(t, "P13.3.2", 0, 11+words, 10-words)
			m.lies(t, "P13.3.2", []int{1, 11}, [2]int{4, 7}, [2]int{11 + words, 10 - words})
		}
	}
}

// TestOldRestStaysForGood: nothing is laid there any more, however small it is.
func TestOldRestStaysForGood(t *testing.T) {
	m := made(t, 64, 2, 10)
	m.puts(t, "P13.3.2", 0, 3, 1)
	m.puts(t, "P13.3.2", 0, 8, 11)
	m.puts(t, "P13.3.2", 0, 2, 19)
	m.puts(t, "P13.3.2", 0, 2, 21)
	m.puts(t, "P13.3.2", 1, 2, 31)
	m.lies(t, "P13.3.2", []int{1, 11, 19, 21, 31}, [2]int{4, 7}, [2]int{23, 8}, [2]int{33, 8})
}

// TestNewBufferOfWhatIsLeft: the lesser one of size and eden's free words.
func TestNewBufferOfWhatIsLeft(t *testing.T) {
	for left := 2; left <= 22; left++ {
		m := made(t, 64, 2, 20)
		m.a.Fill(api.SpaceEden, 64-left)
		whole := min(left, 20)
		for words := left + 1; words <= 25; words++ {
			m.refuses(t, fmt.Sprintf("P13.3.4: %d are left", left), 0, plain(words))
		}
		m.puts(t, "P13.3.2", 0, 2, 65-left)
		want(t, fmt.Sprintf("P13.3.2: %d are left", left), m.a.Top(api.SpaceEden), 65-left+whole)
		if whole == 2 {
			m.rests(t, "P13.3.2", 0, 0, 0)
		} else {
			m.rests(t, "P13.3.2", 0, 67-left, whole-2)
		}
	}
}

// TestPastTheBuffer: 3, at its edges: above size, up to eden's free words.
func TestPastTheBuffer(t *testing.T) {
	for _, words := range []int{11, 12, 53, 54} {
		m := made(t, 64, 2, 10)
		m.puts(t, "P13.3.3", 0, 3, 1)
		m.puts(t, "P13.3.3", 0, words, 11)
		m.rests(t, "P13.3.3: the buffer stays", 0, 4, 7)
		m.rests(t, "P13.3.3: the other thread has none", 1, 0, 0)
		m.lies(t, "P13.3.3", []int{1, 11}, [2]int{4, 7})
		want(t, "P13.3.3: no more than the object", m.a.Top(api.SpaceEden), 11+words)
		m.puts(t, "P13.3.1: into the buffer again", 0, 7, 4)
	}
	m := made(t, 64, 2, 10)
	m.puts(t, "P13.3.3: without a buffer", 0, 11, 1)
	m.rests(t, "P13.3.3: without a buffer", 0, 0, 0)
	m.puts(t, "P13.3.2", 0, 2, 12)
}

// TestNoRoom: 4, at its edges; and the rest is of use still.
func TestNoRoom(t *testing.T) {
	m := made(t, 64, 2, 10)
	m.puts(t, "P13.3", 0, 3, 1)
	for _, words := range []int{55, 56, 64, 65, 4000, 65537} {
		m.refuses(t, "P13.3.4: above size", 0, plain(words))
	}
	m.refuses(t, "P13.3.4: the greatest head", 0, api.Head{Kind: api.Plain, Ptrs: 4095, Raws: 65535})
	m.a.Fill(api.SpaceEden, 46)
	for words := 9; words <= 11; words++ {
		m.refuses(t, "P13.3.4: 8 words are free", 0, plain(words))
	}
	m.puts(t, "P13.3.2: at most what is free", 1, 8, 57)
	m.refuses(t, "P13.3.4: eden is full", 0, plain(8))
	m.refuses(t, "P13.3.4: eden is full", 1, plain(2))
	m.puts(t, "P13.3.1: though eden is full", 0, 7, 4)
	m.refuses(t, "P13.3.4: eden is full", 0, plain(2))
}

// TestSizes: with none, or one that no object goes into, all goes past the buffers; one above eden is eden's.
func TestSizes(t *testing.T) {
	for _, size := range []int{0, 1} {
		m := made(t, 64, 2, size)
		for i := range 32 {
			m.puts(t, "P13.3.3", i%2, 2, 1+2*i)
			m.rests(t, "P13.3.3", i%2, 0, 0)
		}
		m.refuses(t, "P13.3.4", 0, plain(2))
	}
	for _, size := range []int{64, 65, 65536} {
		m := made(t, 64, 2, size)
		m.puts(t, "P13.3.2: all of eden", 0, 2, 1)
		m.rests(t, "P13.3.2: all of eden", 0, 3, 62)
		m.refuses(t, "P13.3.4: another thread has it", 1, plain(2))
		m.puts(t, "P13.3.1", 0, 62, 3)
	}
	m := made(t, 65536, 8, 65536)
	m.puts(t, "P13.3.2: the greatest eden", 7, 65534, 1)
	m.rests(t, "P13.3.2: the greatest eden", 7, 65535, 2)
	m.puts(t, "P13.3.1: the greatest eden", 7, 2, 65535)
}

// TestHeaderAndFields: the header is the head's, and the fields are 0 in whatever stood there, in each of the three ways.
func TestHeaderAndFields(t *testing.T) {
	d := dice(133)
	for range 300 {
		m := made(t, 64, 1, 16)
		for at := 1; at < 65; at++ {
			m.a.SetWord(at, d.word())
		}
		for _, h := range []api.Head{d.head(6), d.head(6), d.head(6)} {
			at, ok := m.b.Put(m.a, 0, h)
			if !ok {
				t.Fatalf("P13.3: Put(%+v) is refused", h)
			}
			meta, _ := cell.Pack(h)
			want(t, "P13.3: the header", []uint64{m.a.Word(at), m.a.Word(at + 1)}, []uint64{meta, h.Serial})
			got, is := m.a.Head(at)
			want(t, "P13.3: the header", fmt.Sprint(got, is), fmt.Sprint(h, true))
			for i := range h.Ptrs + h.Raws {
				want(t, "P13.3: a field", m.a.Word(at+2+i), 0)
			}
		}
	}
}

// TestFillerWord: it stands in the rest's first word as long as there is one.
func TestFillerWord(t *testing.T) {
	m := made(t, 64, 2, 21)
	for i := range 10 {
		m.puts(t, "P13.2", 1, 2, 1+2*i)
		m.rests(t, "P13.2", 1, 3+2*i, 19-2*i)
		m.rests(t, "P13.2: no buffer", 0, 0, 0)
		want(t, "P13.2: the filler's word", m.a.Word(3+2*i), cell.Filler(19-2*i))
	}
	for range 2 {
		m.refuses(t, "P13.3.4", 1, plain(44))
		m.rests(t, "P13.2: a word that no object goes into", 1, 21, 1)
		want(t, "P13.2: the filler's word", m.a.Word(21), cell.Filler(1))
	}
}
