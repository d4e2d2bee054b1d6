package buffer_test

import (
	"fmt"
	"slices"
	"testing"

	"midden/api"
	"midden/arena"
	"midden/buffer"
	"midden/cell"
)

const (
	least    = -1 << 63
	greatest = 1<<63 - 1
)

// odd are numbers that are no thread of any buffers here.
var odd = []int{least, least + 1, -1 << 32, -65536, -8, -2, -1, 8, 9, 64, 65536, 1 << 31, 1 << 32, 1<<32 + 1, 1 << 62, greatest - 1, greatest}

// memory: an arena, and the buffers that go with it.
type memory struct {
	a *arena.Arena
	b *buffer.Buffers
}

func made(t *testing.T, eden, threads, size int) memory {
	t.Helper()
	a, e := arena.New(api.Config{Eden: eden, Survivor: 64, Tenured: 100, Large: 64, Num: 1, Den: 1, Target: 50, MaxAge: 1, Threads: 1, Slots: 1, Workers: 1})
	if a == nil || e != api.OK {
		t.Fatalf("an arena with an eden of %d: error %d", eden, e)
	}
	return memory{a, opened(t, threads, size)}
}

func opened(t *testing.T, threads, size int) *buffer.Buffers {
	t.Helper()
	b, e := buffer.New(threads, size)
	if b == nil || e != api.OK {
		t.Fatalf("P13.1: New(%d, %d): error %d", threads, size, e)
	}
	return b
}

// plain is a head of so many words.
func plain(words int) api.Head { return api.Head{Serial: 5, Kind: api.Plain, Raws: words - 2} }

// puts holds a Put of a plain object to its address.
func (m memory) puts(t *testing.T, what string, thread, words, at int) {
	t.Helper()
	if got, ok := m.b.Put(m.a, thread, plain(words)); got != at || !ok {
		t.Errorf("%s: Put by %d of %d words: %d, %v, want %d, true", what, thread, words, got, ok, at)
	}
}

// refuses holds a Put to being refused, and to changing nothing.
func (m memory) refuses(t *testing.T, what string, thread int, h api.Head) {
	t.Helper()
	was := m.state()
	if at, ok := m.b.Put(m.a, thread, h); at != 0 || ok {
		t.Errorf("%s: Put by %d of %+v: %d, %v, want 0, false", what, thread, h, at, ok)
	}
	m.stays(t, what, was)
}

func (m memory) rests(t *testing.T, what string, thread, at, words int) {
	t.Helper()
	if gotAt, got := m.b.Rest(thread); gotAt != at || got != words {
		t.Errorf("%s: Rest(%d) = %d, %d, want %d, %d", what, thread, gotAt, got, at, words)
	}
}

func (m memory) rooms(t *testing.T, what string, thread, words int) {
	t.Helper()
	want(t, fmt.Sprintf("%s: Room(%d)", what, thread), m.b.Room(m.a, thread), words)
}

func want(t *testing.T, what string, got, want any) {
	t.Helper()
	if g, w := fmt.Sprint(got), fmt.Sprint(want); g != w {
		t.Errorf("%s: %s, want %s", what, g, w)
	}
}

// state: all that can be told of a memory.
type state struct {
	words []uint64
	tops  [6]int
	from  int
	rests [8][2]int
}

func (m memory) state() state {
	s := state{from: m.a.From()}
	_, behind := m.a.Bounds(api.SpaceTenured)
	for at := range behind {
		s.words = append(s.words, m.a.Word(at))
	}
	for space := range s.tops {
		s.tops[space] = m.a.Top(space)
	}
	for thread := range s.rests {
		at, words := m.b.Rest(thread)
		s.rests[thread] = [2]int{at, words}
	}
	return s
}

func (m memory) stays(t *testing.T, what string, was state) {
	t.Helper()
	is := m.state()
	if !slices.Equal(is.words, was.words) || is.tops != was.tops || is.from != was.from || is.rests != was.rests {
		t.Errorf("%s: something has changed", what)
	}
}

// thing: an object or a filler of eden.
type thing struct {
	at, words int
	filler    bool
}

// things walks through eden by its words alone; at -1 stands where the walk fails.
func (m memory) things() []thing {
	var l []thing
	at, _ := m.a.Bounds(api.SpaceEden)
	for top := m.a.Top(api.SpaceEden); at < top; {
		words := cell.Size(m.a.Word(at))
		if words < 1 || words > top-at {
			return append(l, thing{at: -1})
		}
		_, filler := cell.Filled(m.a.Word(at))
		l = append(l, thing{at, words, filler})
		at += words
	}
	return l
}

// lies holds eden to objects (addresses) and fillers (pairs of address and words).
func (m memory) lies(t *testing.T, what string, objects []int, fillers ...[2]int) {
	t.Helper()
	var gotObjects []int
	var gotFillers [][2]int
	for _, x := range m.things() {
		if x.filler {
			gotFillers = append(gotFillers, [2]int{x.at, x.words})
		} else {
			gotObjects = append(gotObjects, x.at)
		}
	}
	want(t, what+": objects", gotObjects, objects)
	want(t, what+": fillers", gotFillers, fillers)
}

// dice: numbers that look like chance and are the same at every run.
type dice uint64

func (d *dice) word() uint64 {
	*d += 0x9e3779b97f4a7c15
	x := uint64(*d)
	x = (x ^ x>>30) * 0xbf58476d1ce4e5b9
	x = (x ^ x>>27) * 0x94d049bb133111eb
	return x ^ x>>31
}

func (d *dice) below(n int) int { return int(d.word() % uint64(n)) }

// head tells one that may be, of some fields.
func (d *dice) head(most int) api.Head {
	kind := []int{api.Plain, api.Weak, api.Ephemeron, api.Final}[d.below(4)]
	h := api.Head{Serial: d.word() >> d.below(64), Kind: kind, Ptrs: d.below(most), Raws: d.below(most), Age: d.below(16), Site: d.below(256), Held: d.below(2) == 0}
	switch kind {
	case api.Weak:
		h.Ptrs++
	case api.Ephemeron:
		h.Ptrs += 2
	}
	return h
}
