package buffer_test

import (
	"fmt"
	"testing"

	"midden/api"
	"midden/buffer"
)

func TestNewAtBounds(t *testing.T) {
	sizes := append([]int{-1, 0, 1, 2, 63, 65535, 65536, 65537}, odd...)
	threads := append([]int{0, 1, 2, 7, 8, 9}, odd...)
	for _, n := range threads {
		for _, size := range sizes {
			b, e := buffer.New(n, size)
			may := n >= 1 && n <= 8 && size >= 0 && size <= 65536
			if may && (b == nil || e != api.OK) || !may && (b != nil || e != api.ErrBufferSize) {
				t.Errorf("P13.1: New(%d, %d): buffers: %v, error %d", n, size, b != nil, e)
			}
		}
	}
	want(t, "the table of errors", int(api.ErrBufferSize), 130)
}

func TestNewHasNoBuffer(t *testing.T) {
	for threads := 1; threads <= 8; threads++ {
		m := made(t, 64, threads, 20)
		was := m.state()
		for thread := range threads {
			m.rests(t, "P13.1", thread, 0, 0)
			m.rooms(t, "P13.1", thread, 64)
		}
		m.stays(t, "P13.1", was)
	}
}

// TestThreadsFromNullOn: each has a buffer of its own, the first is 0, and there is none behind the last.
func TestThreadsFromNullOn(t *testing.T) {
	for threads := 1; threads <= 8; threads++ {
		m := made(t, 64, threads, 8)
		for thread := range threads {
			m.puts(t, "P13.1", thread, 3, 1+8*thread)
		}
		for thread := range threads {
			m.puts(t, "P13.1", thread, 2, 4+8*thread)
			m.rests(t, "P13.1", thread, 6+8*thread, 3)
		}
		for _, thread := range append([]int{threads}, odd...) {
			what := fmt.Sprintf("P13.1: no thread %d of %d", thread, threads)
			m.refuses(t, what, thread, plain(2))
			m.rests(t, what, thread, 0, 0)
			m.rooms(t, what, thread, 0)
		}
	}
}

// TestBuffersThatNobodyMade have no threads, and no call panics.
func TestBuffersThatNobodyMade(t *testing.T) {
	m := made(t, 64, 1, 0)
	m.b = &buffer.Buffers{}
	was := m.state()
	m.refuses(t, "rule 1", 0, plain(2))
	m.rests(t, "rule 1", 0, 0, 0)
	m.rooms(t, "rule 1", 0, 0)
	m.b.Retire(m.a)
	m.stays(t, "rule 1", was)
}
