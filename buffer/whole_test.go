package buffer_test

import (
	"fmt"
	"maps"
	"slices"
	"testing"

	"midden/api"
)

// laid: an object as it is to be: its header and fields.
type laid struct {
	head   api.Head
	fields []uint64
}

func (o laid) words() int { return 2 + len(o.fields) }

// model: P13.2 to P13.5, word for word, over lists instead of words.
type model struct {
	size, top, behind int
	rests             [8][2]int
	objects           map[int]laid
}

func (m *model) free() int { return m.behind - m.top }

func (m *model) lay(at int, h api.Head) {
	m.objects[at] = laid{h, make([]uint64, h.Ptrs+h.Raws)}
}

func (m *model) put(thread int, h api.Head) (int, bool) {
	n, rest := 2+h.Ptrs+h.Raws, &m.rests[thread]
	at := rest[0]
	switch {
	case n <= rest[1]:
		*rest = [2]int{at + n, rest[1] - n}
	case n <= m.size && n <= m.free():
		at = m.top
		whole := min(m.size, m.free())
		m.top += whole
		*rest = [2]int{at + n, whole - n}
	case n <= m.free():
		at = m.top
		m.top += n
	default:
		return 0, false
	}
	if rest[1] == 0 {
		*rest = [2]int{}
	}
	m.lay(at, h)
	return at, true
}

// gaps tells how many words lie between the objects that are there, and between them and the top.
func (m *model) gaps() int {
	gaps := m.top - 1
	for _, o := range m.objects {
		gaps -= o.words()
	}
	return gaps
}

// run: a memory with its model, and the dice that say what is done to both.
type run struct {
	memory
	m    *model
	d    *dice
	much int // how many fields of each kind an object may have
}

func begun(t *testing.T, seed int) *run {
	t.Helper()
	d := dice(seed)
	eden := 64 + d.below(400)
	size := []int{0, 1 + d.below(8), 2 + d.below(40), d.below(eden + 1), eden + d.below(100)}[d.below(5)]
	x := made(t, eden, 8, size)
	return &run{x, &model{size: size, top: 1, behind: 1 + eden, objects: map[int]laid{}}, &d, 1 + d.below(12)}
}

func (r *run) step(t *testing.T) {
	t.Helper()
	switch k := r.d.below(40); {
	case k < 26:
		r.putsByThread(t)
	case k < 29:
		r.putsPast(t)
	case k < 38:
		r.writes(t)
	case k < 39:
		r.b.Retire(r.a)
		r.m.rests = [8][2]int{}
	default:
		r.cycles(t)
	}
}

func (r *run) putsByThread(t *testing.T) {
	t.Helper()
	thread, h := r.d.below(8), r.d.head(r.much)
	room := r.b.Room(r.a, thread)
	want(t, "P13.4: Room", room, max(r.m.rests[thread][1], r.m.free()))
	got, ok := r.b.Put(r.a, thread, h)
	at, goes := r.m.put(thread, h)
	want(t, "P13.3: Put", fmt.Sprint(got, ok), fmt.Sprint(at, goes))
	want(t, "P13.4: Put goes well just if there is room", ok, 2+h.Ptrs+h.Raws <= room)
}

func (r *run) putsPast(t *testing.T) {
	t.Helper()
	h := r.d.head(r.much)
	if at, ok := r.a.Put(api.SpaceEden, h); ok {
		r.m.lay(at, h)
		r.m.top += 2 + h.Ptrs + h.Raws
	}
}

// writes changes a header or a field of an object that is there.
func (r *run) writes(t *testing.T) {
	t.Helper()
	if len(r.m.objects) == 0 {
		return
	}
	ats := slices.Sorted(maps.Keys(r.m.objects))
	at := ats[r.d.below(len(ats))]
	o := r.m.objects[at]
	if len(o.fields) == 0 || r.d.below(4) == 0 {
		o.head.Held, o.head.Age = !o.head.Held, r.d.below(16)
		r.a.SetHead(at, o.head)
		r.m.objects[at] = o
		return
	}
	i := r.d.below(len(o.fields))
	if i < o.head.Ptrs {
		to := ats[r.d.below(len(ats))]
		r.a.SetPtr(at, i, to)
		o.fields[i] = uint64(to)
		return
	}
	w := r.d.word()
	r.a.SetRaw(at, i-o.head.Ptrs, w)
	o.fields[i] = w
}

// cycles does to eden what a cycle does: it is emptied, or some words at its end go; the buffers are retired ahead of that.
func (r *run) cycles(t *testing.T) {
	t.Helper()
	r.b.Retire(r.a)
	r.m.rests = [8][2]int{}
	top := 1
	if l := r.things(); len(l) > 0 && r.d.below(2) == 0 {
		top = l[r.d.below(len(l))].at
	}
	r.a.Cut(api.SpaceEden, top)
	r.m.top = top
	maps.DeleteFunc(r.m.objects, func(at int, _ laid) bool { return at >= top })
}

// holds holds eden to the model: its objects, whole, and fillers, and the rests.
func (r *run) holds(t *testing.T) {
	t.Helper()
	if at, e := r.a.Check(); e != api.OK {
		t.Fatalf("P13.6: the walk fails at %d", at)
	}
	met := 0
	for at, h := range r.a.Objects(api.SpaceEden) {
		o, is := r.m.objects[at]
		if !is || h != o.head {
			t.Fatalf("P13.6: at %d %+v is met, want %+v", at, h, o.head)
		}
		for i, w := range o.fields {
			if r.a.Word(at+2+i) != w {
				t.Fatalf("P13.6: the field %d of the object at %d is %d, want %d", i, at, r.a.Word(at+2+i), w)
			}
		}
		met++
	}
	want(t, "P13.6: objects", met, len(r.m.objects))
	want(t, "P13.7: eden's top", r.a.Top(api.SpaceEden), r.m.top)
	fillers := map[[2]int]int{}
	spent := 0
	for _, x := range r.things() {
		if x.filler {
			fillers[[2]int{x.at, x.words}]++
			spent += x.words
		}
	}
	want(t, "P13.7: words of fillers", spent, r.m.gaps())
	for thread, rest := range r.m.rests {
		r.rests(t, "P13.2", thread, rest[0], rest[1])
		if rest[1] > 0 && fillers[rest] != 1 {
			t.Errorf("P13.2: the rest of %d, %v, is no filler", thread, rest)
		}
	}
}

// TestWhatever holds eden to the model behind each of many steps.
func TestWhatever(t *testing.T) {
	for seed := range 400 {
		r := begun(t, seed)
		for range 150 {
			r.step(t)
			r.holds(t)
			if t.Failed() {
				t.Fatalf("seed %d", seed)
			}
		}
	}
}
