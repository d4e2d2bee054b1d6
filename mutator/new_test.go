package mutator_test

import (
	"slices"
	"testing"

	"midden/api"
	"midden/image"
	"midden/mutator"
)

// setting: a number of a configuration, with the least and the greatest that it may be where the others are those of small.
type setting struct {
	name        string
	at          func(c *api.Config) *int
	first, last int
}

var settings = []setting{
	{"Eden", func(c *api.Config) *int { return &c.Eden }, 64, 65536},
	{"Survivor", func(c *api.Config) *int { return &c.Survivor }, 64, 65536},
	{"Tenured", func(c *api.Config) *int { return &c.Tenured }, 64, 65536},
	{"Large", func(c *api.Config) *int { return &c.Large }, 2, 65536},
	{"Floor", func(c *api.Config) *int { return &c.Floor }, 0, 65536},
	{"Num", func(c *api.Config) *int { return &c.Num }, 1, 65536},
	{"Den", func(c *api.Config) *int { return &c.Den }, 1, 2},
	{"Target", func(c *api.Config) *int { return &c.Target }, 1, 100},
	{"MaxAge", func(c *api.Config) *int { return &c.MaxAge }, 1, 15},
	{"Threads", func(c *api.Config) *int { return &c.Threads }, 1, 8},
	{"Slots", func(c *api.Config) *int { return &c.Slots }, 1, 4096},
	{"Handles", func(c *api.Config) *int { return &c.Handles }, 0, 1024},
	{"Buffer", func(c *api.Config) *int { return &c.Buffer }, 0, 64},
	{"Workers", func(c *api.Config) *int { return &c.Workers }, 1, 8},
}

// with is small with one number changed.
func (s setting) with(n int) api.Config {
	c := small()
	*s.at(&c) = n
	return c
}

func TestNew(t *testing.T) {
	for _, s := range settings {
		for _, n := range []int{s.first, s.last} {
			m := made(t, s.with(n))
			does(t, "P19.1: nothing is there", m, counted(), api.Reply{Census: make([][]uint64, 4)})
			does(t, "P19.1: nothing lies about", m, audit(), api.Reply{Audit: api.Audit{Limit: s.with(n).Floor}})
			does(t, "P19.1: no site", m, sites(), api.Reply{})
			does(t, "P19.1: no frame", m, pop(0), refused(api.ErrRootsFrame))
		}
	}
	c := small()
	c.Handles = 0
	b := []byte{0x4d, 0x44, 0x49, 0x31, 1, 0, 1, 0, 0, 0}
	want(t, "P19.1: the image of one without anything", made(t, c).Do(dump()).Bytes, append(b, sumOf(b)...))
}

// sumOf: P16.2's checksum, the lowest byte first.
func sumOf(b []byte) []byte {
	sum := uint32(2166136261)
	for _, x := range b {
		sum = (sum ^ uint32(x)) * 16777619
	}
	return []byte{byte(sum), byte(sum >> 8), byte(sum >> 16), byte(sum >> 24)}
}

func TestNewRefuses(t *testing.T) {
	wrong := []api.Config{{}}
	for _, s := range settings {
		for _, n := range append([]int{s.first - 1, s.last + 1}, odd...) {
			wrong = append(wrong, s.with(n))
		}
	}
	b := made(t, small()).Do(dump()).Bytes
	for _, c := range wrong {
		if m, e := mutator.New(c); m != nil || e != api.ErrArenaConfig {
			t.Errorf("P19.1: New(%+v): %v, error %d", c, m, e)
		}
		if m, place, e := mutator.Load(c, b); m != nil || place != 0 || e != api.ErrArenaConfig {
			t.Errorf("P19.1: Load(%+v): %v, error %d at %d", c, m, e, place)
		}
	}
}

// rich makes a mutator that holds objects of all kinds, two threads' frames, an open handle, a queue of one, and things that are dead.
func rich(t *testing.T) *mutator.Mutator {
	t.Helper()
	c := small()
	c.Threads, c.Workers = 2, 3
	m := begun(t, c, push(0, 2), push(1, 1), push(1, 3), alloc(0, 0, api.Final, 1, 0, 4), cleared(0, 0))
	does(t, "P19.2", m, major(), cycled(api.CycleMajor))
	for _, o := range []api.Op{
		alloc(0, 0, api.Plain, 2, 1, 3), put(0, 0, 0, 1<<63), alloc(0, 1, api.Weak, 1, 0, 0), store(0, 1, 0, 0), store(0, 0, 1, 0), store(0, 0, 0, 1),
		alloc(1, 1, api.Final, 0, 0, 0), alloc(1, 2, api.Ephemeron, 3, 0, 255), store(1, 2, 0, 1), store(1, 2, 1, 1), opened(0, 1), opened(0, 0), closing(0),
		alloc(0, 1, api.Plain, 0, 2, 1), cleared(0, 1),
	} {
		if r := m.Do(o); r.Err != api.OK || len(r.Cycles) != 0 {
			t.Fatalf("%+v: error %d, cycles %v", o, r.Err, r.Cycles)
		}
	}
	return m
}

func TestLoad(t *testing.T) {
	m := rich(t)
	b := m.Do(dump()).Bytes
	for _, c := range []api.Config{
		{Eden: 64, Survivor: 64, Tenured: 64, Large: 2, Floor: 0, Num: 1, Den: 1, Target: 1, MaxAge: 1, Threads: 2, Slots: 4, Handles: 2, Buffer: 64, Workers: 1},
		{Eden: 300, Survivor: 65, Tenured: 65536, Large: 65536, Floor: 65536, Num: 65536, Den: 1, Target: 100, MaxAge: 15, Threads: 2, Slots: 4096, Handles: 2, Buffer: 7, Workers: 8},
	} {
		n := loaded(t, c, b)
		does(t, "P19.1: what is known, tenured, by serial", n, counted(), api.Reply{Census: [][]uint64{nil, nil, nil, {1, 2, 3, 4, 5}}})
		does(t, "P19.1: the same image", n, dump(), api.Reply{Bytes: b})
		// 3 + 5 + 3 + 2 + 5 words; the limit is that of the configuration.
		does(t, "P19.1: what lies about", n, audit(), api.Reply{Audit: api.Audit{Live: 18, Tenured: 18, Limit: max(c.Floor, 18*c.Num/c.Den)}})
		goes(t, "P19.1", n,
			step{get(0, 0, 0), word(1 << 63)}, step{hash(1, 2), word(5)}, step{shape(1, 2), api.Reply{Nums: []int{api.Ephemeron, 3, 0, 255}}}, step{shape(1, 1), api.Reply{Nums: []int{api.Final, 0, 0, 0}}},
			step{hash(0, 1), refused(api.ErrHeapNull)}, step{fetch(0, 1, 0), refused(api.ErrRootsHandle)}, step{fetch(0, 1, 1), api.Reply{}}, step{hash(0, 1), word(2)},
			step{take(0, 1), api.Reply{}}, step{shape(0, 1), api.Reply{Nums: []int{api.Plain, 1, 0, 4}}}, step{take(0, 1), refused(api.ErrHeapEmpty)},
			step{pop(1), api.Reply{}}, step{pop(1), api.Reply{}}, step{pop(1), refused(api.ErrRootsFrame)})
		want(t, "P19.1: the next serial", n.Do(alloc(0, 0, api.Plain, 0, 0, 0)).Word, 7)
	}
}

// TestLoadRefuses: image.Load's place and error, of bytes that were cut, changed and laid behind, and of configurations without room.
func TestLoadRefuses(t *testing.T) {
	b := rich(t).Do(dump()).Bytes
	c := small()
	c.Threads = 2
	wrong := [][]byte{nil, {}, {0x4d}, {0x4d, 0x44, 0x49, 0x32}, append(slices.Clone(b), 0), append(slices.Clone(b), b...)}
	for n := range b {
		changed := slices.Clone(b)
		changed[n] ^= 1
		top := slices.Clone(b)
		top[n] |= 0x80
		wrong = append(wrong, b[:n], changed, top)
	}
	for _, bytes := range wrong {
		if slices.Equal(bytes, b) {
			continue
		}
		_, at, why := image.Load(c, bytes)
		m, place, e := mutator.Load(c, bytes)
		if m != nil || e == api.OK || place != at || e != why {
			t.Errorf("P19.1: Load of % x: error %d at %d, want error %d at %d", bytes, e, place, why, at)
		}
		if m, place, e := mutator.Load(api.Config{}, bytes); m != nil || place != at || e != why {
			t.Errorf("P19.1: Load of % x, and no configuration: error %d at %d, want error %d at %d", bytes, e, place, why, at)
		}
	}
	for _, x := range []struct {
		bytes []byte
		place int
		e     api.Errno
	}{
		{b[:3], 3, api.ErrImageShort},
		{[]byte{0x4d, 0x44, 0x49, 0x32}, 0, api.ErrImageForm},
		{[]byte{0x4d, 0x44, 0x49, 0x31, 0x80, 0}, 4, api.ErrImageForm},
		{append(slices.Clone(b), 0), len(b), api.ErrImageMore},
	} {
		if m, place, e := mutator.Load(c, x.bytes); m != nil || place != x.place || e != x.e {
			t.Errorf("P19.1: Load of % x: error %d at %d, want error %d at %d", x.bytes, e, place, x.e, x.place)
		}
	}
	for what, change := range map[string]func(c *api.Config){
		"a thread less":     func(c *api.Config) { c.Threads = 1 },
		"a thread more":     func(c *api.Config) { c.Threads = 3 },
		"a slot too few":    func(c *api.Config) { c.Slots = 3 },
		"a handle too few":  func(c *api.Config) { c.Handles = 1 },
		"a handle too many": func(c *api.Config) { c.Handles = 3 },
	} {
		other := c
		change(&other)
		if m, place, e := mutator.Load(other, b); m != nil || place != 0 || e != api.ErrImageRoom {
			t.Errorf("P19.1: Load with %s: error %d at %d", what, e, place)
		}
	}
}

// TestLoadRoom: the tenured space has room for just what is known, and for one word less than that.
func TestLoadRoom(t *testing.T) {
	c, tight := small(), small()
	c.Eden, c.Large, tight.Tenured = 128, 128, 64
	m := begun(t, c, push(0, 2), alloc(0, 0, api.Plain, 1, 30, 0), alloc(0, 1, api.Weak, 1, 28, 0))
	does(t, "P19.1: 64 words", loaded(t, tight, m.Do(dump()).Bytes), audit(), api.Reply{Audit: api.Audit{Live: 64, Tenured: 64, Limit: 128}})
	m = begun(t, c, push(0, 2), alloc(0, 0, api.Plain, 1, 30, 0), alloc(0, 1, api.Weak, 1, 29, 0), store(0, 1, 0, 0), cleared(0, 0))
	if n, place, e := mutator.Load(tight, m.Do(dump()).Bytes); n != nil || place != 0 || e != api.ErrImageRoom {
		t.Errorf("P19.1: Load of 65 words into 64, of which a weak field alone knows some: error %d at %d", e, place)
	}
	m.Do(store(0, 1, 0, -1))
	does(t, "P19.1: what nobody knows needs no room", loaded(t, tight, m.Do(dump()).Bytes), audit(), api.Reply{Audit: api.Audit{Live: 32, Tenured: 32, Limit: 64}})
}
