package weak_test

import (
	"fmt"
	"runtime"
	"slices"
	"testing"
	"time"

	"midden/api"
	"midden/arena"
	"midden/weak"
)

// model: the chapter, word for word, over an arena of its own.
type model struct {
	a        *arena.Arena
	marked   []bool // by word
	registry []int
}

// mark: trace.Mark, of objects that don't overlap.
func (m *model) mark(from ...int) {
	for open := slices.Clone(from); len(open) > 0; open = open[1:] {
		at := open[0]
		if at == 0 || m.marked[at] {
			continue
		}
		for i := range size(m.a, at) {
			m.marked[at+i] = true
		}
		h, _ := m.a.Head(at)
		for i := range h.Ptrs {
			if h.Kind == api.Weak && i == 0 || h.Kind == api.Ephemeron && i < 2 {
				continue
			}
			open = append(open, m.ptr(at, i))
		}
	}
}

func (m *model) ptr(at, i int) int {
	to, _ := m.a.Ptr(at, i)
	return to
}

// kinds tells all objects of a kind.
func (m *model) kinds(kind int) []int {
	var l []int
	for _, space := range all {
		for at, h := range m.a.Objects(space) {
			if h.Kind == kind {
				l = append(l, at)
			}
		}
	}
	return l
}

func (m *model) reach(from ...int) {
	m.mark(from...)
	for more := true; more; {
		more = false
		for _, at := range m.kinds(api.Ephemeron) {
			key, value := m.ptr(at, 0), m.ptr(at, 1)
			if m.marked[at] && key != 0 && value != 0 && m.marked[key] && !m.marked[value] {
				m.mark(value)
				more = true
			}
		}
	}
}

func (m *model) settle() (queued []int, cleared int) {
	var kept []int
	for _, at := range m.registry {
		if m.marked[at] {
			kept = append(kept, at)
			continue
		}
		h, _ := m.a.Head(at)
		h.Kind = api.Plain
		m.a.SetHead(at, h)
		queued = append(queued, at)
		m.reach(at)
	}
	m.registry = kept
	null := func(at, i int) {
		if m.ptr(at, i) != 0 {
			cleared++
		}
		m.a.SetPtr(at, i, 0)
	}
	for _, at := range m.kinds(api.Weak) {
		if to := m.ptr(at, 0); m.marked[at] && to != 0 && !m.marked[to] {
			null(at, 0)
		}
	}
	for _, at := range m.kinds(api.Ephemeron) {
		if key := m.ptr(at, 0); m.marked[at] && (key == 0 || !m.marked[key]) {
			null(at, 0)
			null(at, 1)
		}
	}
	return queued, cleared
}

// told is what a memory tells of the same things.
func (m *model) told() string {
	marked := []int{}
	for at, is := range m.marked {
		if is {
			marked = append(marked, at)
		}
	}
	return told(m.a, marked, m.registry)
}

// dice: numbers that look like chance and are the same at every run.
type dice uint64

func (d *dice) word() uint64 {
	*d += 0x9e3779b97f4a7c15
	x := uint64(*d)
	x = (x ^ x>>30) * 0xbf58476d1ce4e5b9
	x = (x ^ x>>27) * 0x94d049bb133111eb
	return x ^ x>>31
}

func (d *dice) below(n int) int { return int(d.word() % uint64(n)) }

func (d *dice) head() api.Head {
	kind := []int{api.Plain, api.Weak, api.Ephemeron, api.Ephemeron, api.Ephemeron, api.Final}[d.below(6)]
	least := map[int]int{api.Weak: 1, api.Ephemeron: 2}[kind]
	return api.Head{Serial: d.word() >> d.below(64), Kind: kind, Ptrs: least + d.below(3), Raws: d.below(3), Age: d.below(16), Site: d.below(256), Held: d.below(2) == 0}
}

// memory lays objects and fillers in all spaces, points them at one another, and lays most Final ones in the registry, in any order. All objects are told.
func (d *dice) memory(t *testing.T, c api.Config) (*memory, []int) {
	t.Helper()
	x := made(t, c)
	var ats, final []int
	for _, space := range all {
		for x.a.Free(space) >= 10 && d.below(40) > 0 {
			if d.below(8) == 0 {
				x.a.Fill(space, 1+d.below(3))
				continue
			}
			at := x.put(t, space, d.head())
			ats = append(ats, at)
			if x.kind(at) == api.Final && d.below(5) > 0 {
				final = slices.Insert(final, d.below(len(final)+1), at)
			}
		}
	}
	for _, at := range ats {
		h, _ := x.a.Head(at)
		for i := range h.Ptrs {
			if d.below(4) > 0 {
				x.point(t, at, i, ats[d.below(len(ats))])
			}
		}
	}
	x.add(t, final...)
	if d.below(2) == 0 {
		x.a.Swap()
	}
	return x, ats
}

// some tells a list of these and null, some of them twice.
func (d *dice) some(ats []int, n int) []int {
	l := []int{0}
	for range d.below(n + 1) {
		if len(ats) > 0 {
			l = append(l, ats[d.below(len(ats))])
		}
	}
	return l
}

// TestModel: many memories, through several settlings each with marks made anew; by each number of workers.
func TestModel(t *testing.T) {
	followed, queued, stayed, cleared := 0, 0, 0, 0
	for seed := range 250 {
		d := dice(seed)
		c := sized(64+d.below(200), 64+d.below(60), 64+d.below(200))
		x, ats := d.memory(t, c)
		twin := dice(seed)
		twin.below(200)
		twin.below(60)
		twin.below(200)
		y, _ := twin.memory(t, c)
		m := &model{a: y.a, registry: y.r.List()}
		for turn := range 4 {
			from, workers := d.some(ats, 6), 1+(seed+turn)%api.MaxWorkers
			x.m.Clear()
			m.marked = make([]bool, wordsIn(m.a))
			m.mark(from...)
			n := count(m.marked)
			m.reach(from...)
			x.reach(t, workers, from...)
			want(t, "P10.3", x.told(), m.told())
			followed += count(m.marked) - n
			q, k := m.settle()
			x.settle(t, workers, q, k)
			want(t, "P10.4", x.told(), m.told())
			x.closed(t)
			queued, stayed, cleared = queued+len(q), stayed+len(m.registry), cleared+k
			if t.Failed() {
				t.Fatalf("seed %d", seed)
			}
		}
	}
	if followed < 500 || queued < 500 || stayed < 500 || cleared < 500 {
		t.Errorf("the memories are too poor: %d words, %d queued, %d stayed, %d cleared", followed, queued, stayed, cleared)
	}
}

func count(marked []bool) int {
	n := 0
	for _, is := range marked {
		if is {
			n++
		}
	}
	return n
}

// closed: P10.5's words.
func (x *memory) closed(t *testing.T) {
	t.Helper()
	for _, space := range all {
		for at, h := range x.a.Objects(space) {
			for i := range h.Ptrs {
				to, _ := x.a.Ptr(at, i)
				if x.m.Has(at) && to != 0 && !x.m.Has(to) {
					t.Errorf("P10.5: the object at %d, of kind %d, is marked, and what its field %d holds isn't", at, h.Kind, i)
				}
			}
		}
	}
}

// TestWorkersTellTheSame: one memory, settled by each number of workers.
func TestWorkersTellTheSame(t *testing.T) {
	for seed := 1000; seed < 1040; seed++ {
		var told string
		each(func(workers int) {
			d := dice(seed)
			x, ats := d.memory(t, sized(300, 100, 300))
			x.reach(t, workers, d.some(ats, 8)...)
			queued, cleared, e := weak.Settle(x.a, x.m, x.r, workers)
			now := fmt.Sprint(queued, cleared, e, x.told())
			if workers == 1 {
				told = now
			}
			want(t, fmt.Sprintf("P10.5: by %d workers", workers), now, told)
		})
	}
}

// Nobody is queued twice, whatever is reached from turn to turn.
func TestQueuedOnceAtMost(t *testing.T) {
	for seed := range 60 {
		d := dice(seed)
		x, ats := d.memory(t, sized(200, 64, 200))
		was := x.r.List()
		met := map[int]bool{}
		for range 8 {
			x.m.Clear()
			x.reach(t, 2, d.some(ats, 3)...)
			queued, _, _ := weak.Settle(x.a, x.m, x.r, 2)
			for _, at := range queued {
				if met[at] || x.kind(at) != api.Plain {
					t.Errorf("P10.6: %d is queued again, or of kind %d", at, x.kind(at))
				}
				met[at] = true
			}
			left := slices.DeleteFunc(slices.Clone(was), func(at int) bool { return met[at] })
			x.list(t, "P10.4: the others, in their order", left...)
		}
	}
}

// TestGreatest: a great arena, full of ephemerons that all are due, of weak objects and of Final ones.
func TestGreatest(t *testing.T) {
	x := made(t, sized(api.MaxSpace, api.MaxSpace, api.MaxSpace))
	key := x.lay(t, api.SpaceEden, api.Plain)
	from := []int{key}
	n := 0
	for _, space := range all {
		for x.a.Free(space) >= 12 {
			v := x.lay(t, space, api.Plain)
			f := x.lay(t, space, api.Plain)
			from = append(from, x.lay(t, space, api.Ephemeron, key, v), x.lay(t, space, api.Ephemeron, f, v))
			n++
		}
	}
	last := x.lay(t, api.SpaceTenured, api.Final)
	x.add(t, last)
	for _, workers := range []int{1, 8} {
		x.m.Clear()
		x.reach(t, workers, from...)
		want(t, "P10.3: marked words", x.m.Count(0, wordsIn(x.a)), 2+10*n)
	}
	x.settle(t, 8, []int{last}, 2*n)
}

// TestWorkersEnd: all of them have ended when a call answers.
func TestWorkersEnd(t *testing.T) {
	before := runtime.NumGoroutine()
	for seed := range 20 {
		d := dice(seed)
		x, ats := d.memory(t, sized(200, 64, 200))
		x.reach(t, 8, d.some(ats, 8)...)
		weak.Settle(x.a, x.m, x.r, 8)
	}
	for range 2000 {
		if runtime.NumGoroutine() <= before {
			return
		}
		time.Sleep(time.Millisecond)
	}
	t.Errorf("P10.5: %d goroutines, %d ahead of the calls", runtime.NumGoroutine(), before)
}
