package bag_test

import (
	"runtime"
	"testing"

	"midden/bag"
)

const mega = 1 << 20

// heldBy tells how many bytes are in use behind do that weren't ahead of it.
func heldBy(do func()) int {
	ahead := inUse()
	do()
	return inUse() - ahead
}

func inUse() int {
	var m runtime.MemStats
	runtime.GC()
	runtime.ReadMemStats(&m)
	return int(m.HeapAlloc)
}

// TestNothingTakenIsKept: a container holds no more than what is in it.
func TestNothingTakenIsKept(t *testing.T) {
	s := stackOf[[]byte](t, 0)
	q := queueOf[[]byte](t, 0)
	w := bag.NewTable[int, []byte]()
	held := heldBy(func() {
		for i := range 32 {
			s.Push(make([]byte, mega))
			q.Put(make([]byte, mega))
			w.Set(i, make([]byte, mega))
		}
		for i := range 31 {
			s.Pop()
			q.Take()
			w.Drop(i)
		}
	})
	want(t, "Len", []int{s.Len(), q.Len(), w.Len()}, "[1 1 1]")
	if held > 8*mega {
		t.Errorf("%d bytes are held by 3 things of %d", held, mega)
	}
	runtime.KeepAlive(s)
	runtime.KeepAlive(q)
	runtime.KeepAlive(w)
}

// TestQueueStaysSmall: a queue that is put into and taken from for long doesn't grow.
func TestQueueStaysSmall(t *testing.T) {
	q := queueOf(t, 0, [1024]byte{}, [1024]byte{}, [1024]byte{})
	held := heldBy(func() {
		for range 32 * 1024 {
			q.Put([1024]byte{})
			q.Take()
		}
	})
	want(t, "Len", q.Len(), 3)
	if held > 8*mega {
		t.Errorf("%d bytes are held for 3 things of 1024", held)
	}
	runtime.KeepAlive(q)
}
