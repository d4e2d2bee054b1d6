package roots_test

import (
	"fmt"
	"slices"
	"testing"

	"midden/api"
	"midden/roots"
)

const (
	least = -1 << 63
	most  = 1<<63 - 1
)

// odd are numbers that are no thread, no slot, no handle and no size.
var odd = []int{least, least + 1, -1 << 32, -4097, -4096, -2, -1, 4097, 1 << 32, 1<<32 + 1, 1 << 62, most - 4096, most - 1, most}

func want(t *testing.T, what string, got, want any) {
	t.Helper()
	if g, w := fmt.Sprint(got), fmt.Sprint(want); g != w {
		t.Errorf("%s: %s, want %s", what, g, w)
	}
}

func made(t *testing.T, threads, slots, handles int) *roots.Roots {
	t.Helper()
	r, e := roots.New(threads, slots, handles)
	if r == nil || e != api.OK {
		t.Fatalf("P5.1: New(%d, %d, %d): error %d", threads, slots, handles, e)
	}
	return r
}

// push makes frames of such sizes.
func push(t *testing.T, r *roots.Roots, thread int, sizes ...int) {
	t.Helper()
	for _, n := range sizes {
		if e := r.Push(thread, n); e != api.OK {
			t.Fatalf("P5.2: Push(%d, %d): error %d", thread, n, e)
		}
	}
}

// frame makes a frame that holds such addresses.
func frame(t *testing.T, r *roots.Roots, thread int, held ...int) {
	t.Helper()
	push(t, r, thread, len(held))
	for slot, at := range held {
		if e := r.Set(thread, slot, at); e != api.OK {
			t.Fatalf("P5.3: Set(%d, %d, %d): error %d", thread, slot, at, e)
		}
	}
}

// top tells what a thread's top frame holds.
func top(r *roots.Roots, thread int) []int {
	var l []int
	for slot := 0; ; slot++ {
		at, e := r.Get(thread, slot)
		if e != api.OK {
			return l
		}
		l = append(l, at)
	}
}

func open(t *testing.T, r *roots.Roots, held ...int) {
	t.Helper()
	for _, at := range held {
		if _, e := r.Open(at); e != api.OK {
			t.Fatalf("P5.4: Open(%d): error %d", at, e)
		}
	}
}

func enqueue(r *roots.Roots, held ...int) {
	for _, at := range held {
		r.Enqueue(at)
	}
}

// filled tells roots that hold something of every kind, null among it.
func filled(t *testing.T) *roots.Roots {
	t.Helper()
	r := made(t, 3, 6, 4)
	frame(t, r, 0, 11, 0, 13)
	frame(t, r, 0, 14, 15)
	frame(t, r, 2, 31)
	frame(t, r, 2, 0, 33)
	open(t, r, 51, 0, 53)
	enqueue(r, 71, 0, 73)
	return r
}

// told is all that roots of so many threads tell.
func told(r *roots.Roots, threads int) string {
	l := []any{r.Handles(), r.Queue(), r.All()}
	for th := range threads {
		l = append(l, r.Frames(th), top(r, th))
	}
	return fmt.Sprint(l...)
}

// model: the same as roots, a list a frame.
type model struct {
	slots   int
	threads [][][]int
	handles []int // -1: not open
	queue   []int
}

func modelled(threads, slots, handles int) *model {
	return &model{slots: slots, threads: make([][][]int, threads), handles: slices.Repeat([]int{-1}, handles)}
}

func (m *model) used(thread int) int { return len(slices.Concat(m.threads[thread]...)) }

// top is the frame on top; nil, if there is none.
func (m *model) top(thread int) []int {
	if n := len(m.threads[thread]); n > 0 {
		return m.threads[thread][n-1]
	}
	return nil
}

func (m *model) frames(thread int) []int {
	var l []int
	for _, f := range m.threads[thread] {
		l = append(l, len(f))
	}
	return l
}

// places are all roots, in the chapter's order, in their place.
func (m *model) places() []*int {
	var l []*int
	for _, th := range m.threads {
		for _, f := range th {
			for i := range f {
				l = append(l, &f[i])
			}
		}
	}
	for i, at := range m.handles {
		if at >= 0 {
			l = append(l, &m.handles[i])
		}
	}
	for i := range m.queue {
		l = append(l, &m.queue[i])
	}
	return l
}

func (m *model) all() []int {
	var l []int
	for _, p := range m.places() {
		if *p != 0 {
			l = append(l, *p)
		}
	}
	return l
}

func (m *model) told() string {
	l := []any{m.handles, m.queue, m.all()}
	for th := range m.threads {
		l = append(l, m.frames(th), m.top(th))
	}
	return fmt.Sprint(l...)
}

// dice: numbers that look like chance and are the same at every run.
type dice uint64

func (d *dice) below(n int) int {
	*d += 0x9e3779b97f4a7c15
	x := uint64(*d)
	x = (x ^ x>>30) * 0xbf58476d1ce4e5b9
	x = (x ^ x>>27) * 0x94d049bb133111eb
	return int((x ^ x>>31) % uint64(n))
}
