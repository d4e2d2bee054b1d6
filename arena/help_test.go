package arena_test

import (
	"testing"

	"midden/api"
	"midden/arena"
	"midden/cell"
)

const (
	least = -1 << 63
	most  = 1<<63 - 1
)

// odd are numbers that are no word, space or field of any arena here.
var odd = []int{least, least + 1, -1 << 32, -65536, -294, -2, -1, 1 << 18, 1 << 32, 1<<32 + 1, 1 << 40, 1<<62 + 1, most - 1, most}

// all are the spaces, in the array's order.
var all = []int{api.SpaceEden, api.SpaceA, api.SpaceB, api.SpaceTenured}

func small() api.Config {
	return api.Config{Eden: 64, Survivor: 64, Tenured: 100, Large: 40, Floor: 30, Num: 2, Den: 1, Target: 50, MaxAge: 3, Threads: 1, Slots: 16, Handles: 4, Buffer: 0, Workers: 1}
}

func made(t *testing.T, c api.Config) *arena.Arena {
	t.Helper()
	a, e := arena.New(c)
	if a == nil || e != api.OK {
		t.Fatalf("P3.2: New(%+v): error %d", c, e)
	}
	return a
}

func put(t *testing.T, a *arena.Arena, space int, h api.Head) int {
	t.Helper()
	at, ok := a.Put(space, h)
	if !ok {
		t.Fatalf("P3.8: Put(%d, %+v) is refused", space, h)
	}
	return at
}

func fill(t *testing.T, a *arena.Arena, space, words int) {
	t.Helper()
	if !a.Fill(space, words) {
		t.Fatalf("P3.8: Fill(%d, %d) is refused", space, words)
	}
}

// met: an object that a walk gives.
type met struct {
	at   int
	head api.Head
}

func walk(a *arena.Arena, space int) []met {
	var l []met
	for at, h := range a.Objects(space) {
		l = append(l, met{at, h})
	}
	return l
}

// image: all that can be told of an arena without the calls that look for objects.
type image struct {
	words []uint64
	tops  [6]int
	from  int
}

func imaged(a *arena.Arena) image {
	_, behind := a.Bounds(api.SpaceTenured)
	i := image{from: a.From()}
	for at := range behind {
		i.words = append(i.words, a.Word(at))
	}
	for s := range i.tops {
		i.tops[s] = a.Top(s)
	}
	return i
}

// apart tells how many words differ, and the first that does.
func (i image) apart(j image) (n, at int) {
	for k := range i.words {
		if i.words[k] != j.words[k] {
			if n == 0 {
				at = k
			}
			n++
		}
	}
	return n, at
}

// same tells whether nothing has changed.
func (i image) same(j image) bool {
	n, _ := i.apart(j)
	return n == 0 && i.tops == j.tops && i.from == j.from && len(i.words) == len(j.words)
}

// stands: P3.7's words, asked of the arena's words alone.
func stands(a *arena.Arena, at int) (api.Head, bool) {
	for _, space := range all {
		first, behind := a.Bounds(space)
		if at < first || at >= behind || at >= a.Top(space) {
			continue
		}
		h, ok := cell.Unpack(a.Word(at))
		if !ok || at+2+h.Ptrs+h.Raws > a.Top(space) {
			return api.Head{}, false
		}
		h.Serial = a.Word(at + 1)
		return h, true
	}
	return api.Head{}, false
}

// walked: P3.10's walk, word for word: what it meets, and where it fails (-1: nowhere).
func walked(a *arena.Arena, space int) ([]met, int) {
	var l []met
	at, _ := a.Bounds(space)
	for at < a.Top(space) {
		n, isFiller := cell.Filled(a.Word(at))
		if h, ok := stands(a, at); ok {
			l = append(l, met{at, h})
			at += 2 + h.Ptrs + h.Raws
		} else if isFiller && n >= 1 && n <= a.Top(space)-at {
			at += n
		} else {
			return l, at
		}
	}
	return l, -1
}

// dice: numbers that look like chance and are the same at every run.
type dice uint64

func (d *dice) word() uint64 {
	*d += 0x9e3779b97f4a7c15
	z := uint64(*d)
	z = (z ^ z>>30) * 0xbf58476d1ce4e5b9
	z = (z ^ z>>27) * 0x94d049bb133111eb
	return z ^ z>>31
}

func (d *dice) below(n int) int { return int(d.word() % uint64(n)) }

// head tells one that may be, with few fields.
func (d *dice) head() api.Head {
	kind := []int{api.Plain, api.Weak, api.Ephemeron, api.Final}[d.below(4)]
	h := api.Head{Serial: d.word() >> d.below(64), Kind: kind, Ptrs: d.below(4), Raws: d.below(4), Age: d.below(16), Site: d.below(256), Held: d.below(2) == 0}
	switch kind {
	case api.Weak:
		h.Ptrs++
	case api.Ephemeron:
		h.Ptrs += 2
	}
	return h
}
