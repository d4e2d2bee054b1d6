package roots_test

import (
	"slices"
	"testing"

	"midden/api"
	"midden/roots"
)

// TestOrder: however the roots were laid, they are told in one order.
func TestOrder(t *testing.T) {
	r := made(t, 8, 4, 3)
	enqueue(r, 90, 80)
	open(t, r, 72, 71, 70)
	for th := 7; th >= 0; th-- {
		frame(t, r, th, 64-8*th, 63-8*th)
		frame(t, r, th, 62-8*th, 61-8*th)
	}
	want(t, "P5.6: All", r.All(), []int{
		64, 63, 62, 61, 56, 55, 54, 53, 48, 47, 46, 45, 40, 39, 38, 37,
		32, 31, 30, 29, 24, 23, 22, 21, 16, 15, 14, 13, 8, 7, 6, 5,
		72, 71, 70, 90, 80})
}

// TestAllPassesNull: slots, handles that hold it or aren't open, and the queue.
func TestAllPassesNull(t *testing.T) {
	r := filled(t)
	want(t, "P5.6: All", r.All(), []int{11, 13, 14, 15, 31, 33, 51, 53, 71, 73})
	r.Close(0)
	want(t, "P5.6: a closed handle", r.All(), []int{11, 13, 14, 15, 31, 33, 53, 71, 73})
	r.Pop(0)
	want(t, "P5.6: a popped frame", r.All(), []int{11, 13, 31, 33, 53, 71, 73})
	r.Dequeue()
	want(t, "P5.6: what is taken", r.All(), []int{11, 13, 31, 33, 53, 73})
	r.Set(0, 0, 0)
	want(t, "P5.6: what became null", r.All(), []int{13, 31, 33, 53, 73})
}

// TestAllTwice: what is held several times is told as often.
func TestAllTwice(t *testing.T) {
	r := made(t, 2, 2, 2)
	frame(t, r, 0, 5, 5)
	frame(t, r, 1, 5)
	open(t, r, 5, 5)
	enqueue(r, 5, 5)
	want(t, "P5.6: All", r.All(), []int{5, 5, 5, 5, 5, 5, 5})
	n := 0
	r.Update(func(at int) int {
		n++
		return at + n
	})
	want(t, "P5.6: Update may answer otherwise each time", r.All(), []int{6, 7, 8, 9, 10, 11, 12})
}

// TestAllChangesNothing: asking is free.
func TestAllChangesNothing(t *testing.T) {
	r := filled(t)
	ahead := told(r, 3)
	for range 3 {
		r.All()
	}
	want(t, "P5.6: All", told(r, 3), ahead)
}

// TestUpdate: whom to is called for, what it answers, and where that lies then.
func TestUpdate(t *testing.T) {
	r := filled(t)
	var asked []int
	r.Update(func(at int) int {
		asked = append(asked, at)
		return 1000 + len(asked)
	})
	want(t, "P5.6: asked", asked, []int{11, 13, 14, 15, 31, 33, 51, 53, 71, 73})
	want(t, "P5.6: handles", r.Handles(), []int{1007, 0, 1008, -1})
	want(t, "P5.6: queue", r.Queue(), []int{1009, 0, 1010})
	want(t, "P5.6: tops", []any{top(r, 0), top(r, 1), top(r, 2)}, "[[1003 1004] [] [0 1006]]")
	r.Pop(0)
	r.Pop(2)
	want(t, "P5.6: frames below", []any{top(r, 0), top(r, 2)}, "[[1001 0 1002] [1005]]")
	want(t, "P5.2: Frames", []any{r.Frames(0), r.Frames(1), r.Frames(2)}, "[[3] [] [1]]")
}

// TestUpdateToNull: what becomes null stays where it was, and isn't asked for again.
func TestUpdateToNull(t *testing.T) {
	r := filled(t)
	r.Update(func(at int) int {
		if at%10 == 1 {
			return 0
		}
		if at == 53 {
			return least
		}
		return at
	})
	want(t, "P5.8: All", r.All(), []int{13, 14, 15, 33, 73})
	want(t, "P5.6: handles stay open", r.Handles(), []int{0, 0, 0, -1})
	want(t, "P5.6: the queue stays as long", r.Queue(), []int{0, 0, 73})
	h, e := r.Open(9)
	want(t, "P5.4: the least that isn't open", []int{h, int(e)}, []int{3, 0})
	r.Update(func(at int) int { return -at })
	r.Update(func(at int) int {
		t.Errorf("P5.6: asked for %d", at)
		return at
	})
	want(t, "P5.8: All", r.All(), []int{})
	want(t, "P5.6: the queue stays as long", r.Queue(), []int{0, 0, 0})
}

// TestUpdateOfNothing: where there is no root, nobody is asked.
func TestUpdateOfNothing(t *testing.T) {
	r := made(t, 8, 4096, 1024)
	push(t, r, 3, 4096)
	r.Update(func(at int) int {
		t.Errorf("P5.6: asked for %d", at)
		return 1
	})
	want(t, "P5.6: All", r.All(), []int{})
}

// TestAnswersAreNew: what is answered may be written into and appended to.
func TestAnswersAreNew(t *testing.T) {
	r := filled(t)
	ahead := told(r, 3)
	asks := []func() []int{r.All, r.Queue, r.Handles, func() []int { return r.Frames(0) }}
	for i, ask := range asks {
		first, second := ask(), ask()
		held := slices.Clone(second)
		spoil(first)
		if !slices.Equal(second, held) {
			t.Errorf("answer %d shares memory with another", i)
		}
	}
	want(t, "what is answered is the caller's", told(r, 3), ahead)
	all := r.All()
	held := slices.Clone(all)
	r.Update(func(at int) int { return at + 1 })
	want(t, "an answer stays as it was", all, held)
}

// spoil overwrites a list and its spare room.
func spoil(l []int) {
	l = l[:cap(l)]
	for i := range l {
		l[i] = -7
	}
}

// TestModel: long lives of many roots, held against lists.
func TestModel(t *testing.T) {
	var d dice
	for range 60 {
		threads, slots, handles := 1+d.below(8), 1+d.below(12), d.below(6)
		r, m := made(t, threads, slots, handles), modelled(threads, slots, handles)
		for range 300 {
			step(t, r, m, &d)
			if got, held := told(r, threads), m.told(); got != held {
				t.Fatalf("P5.1 to P5.8: %s, want %s", got, held)
			}
		}
	}
}

// step does one thing to both, and holds the answers against each other.
func step(t *testing.T, r *roots.Roots, m *model, d *dice) {
	t.Helper()
	th, at := d.below(len(m.threads)), d.below(9)-2
	switch d.below(9) {
	case 0, 1:
		n := 1 + d.below(4)
		want(t, "P5.2: Push", r.Push(th, n), m.push(th, n))
	case 2:
		want(t, "P5.2: Pop", r.Pop(th), m.pop(th))
	case 3, 4:
		slot := d.below(4)
		want(t, "P5.3: Set", r.Set(th, slot, at), m.set(th, slot, at))
	case 5:
		h, e := r.Open(at)
		held, fault := m.open(at)
		want(t, "P5.4: Open", []int{h, int(e)}, []int{held, int(fault)})
	case 6:
		h := d.below(len(m.handles)+2) - 1
		want(t, "P5.4: Close", r.Close(h), m.close(h))
	case 7:
		if d.below(3) > 0 {
			r.Enqueue(at)
			m.queue = append(m.queue, max(at, 0))
			return
		}
		got, ok := r.Dequeue()
		held, there := m.dequeue()
		want(t, "P5.5: Dequeue", []any{got, ok}, []any{held, there})
	case 8:
		update(t, r, m, d)
	}
}

func update(t *testing.T, r *roots.Roots, m *model, d *dice) {
	t.Helper()
	var asked, all []int
	ahead := m.all()
	shift := *d
	r.Update(func(at int) int {
		asked = append(asked, at)
		return at + d.below(7) - 3
	})
	want(t, "P5.6: Update asks", asked, ahead)
	for _, p := range m.places() {
		if *p != 0 {
			*p = max(*p+shift.below(7)-3, 0)
			if *p != 0 {
				all = append(all, *p)
			}
		}
	}
	want(t, "P5.8: All", r.All(), all)
}

func (m *model) push(thread, n int) api.Errno {
	if m.used(thread)+n > m.slots {
		return api.ErrRootsOverflow
	}
	m.threads[thread] = append(m.threads[thread], make([]int, n))
	return api.OK
}

func (m *model) pop(thread int) api.Errno {
	n := len(m.threads[thread])
	if n == 0 {
		return api.ErrRootsFrame
	}
	m.threads[thread] = m.threads[thread][:n-1]
	return api.OK
}

func (m *model) set(thread, slot, at int) api.Errno {
	f := m.top(thread)
	switch {
	case f == nil:
		return api.ErrRootsFrame
	case slot >= len(f):
		return api.ErrRootsSlot
	}
	f[slot] = max(at, 0)
	return api.OK
}

func (m *model) open(at int) (int, api.Errno) {
	for h, held := range m.handles {
		if held < 0 {
			m.handles[h] = max(at, 0)
			return h, api.OK
		}
	}
	return 0, api.ErrRootsHandles
}

func (m *model) close(h int) api.Errno {
	if h < 0 || h >= len(m.handles) || m.handles[h] < 0 {
		return api.ErrRootsHandle
	}
	m.handles[h] = -1
	return api.OK
}

func (m *model) dequeue() (int, bool) {
	if len(m.queue) == 0 {
		return 0, false
	}
	at := m.queue[0]
	m.queue = m.queue[1:]
	return at, true
}
