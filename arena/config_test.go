package arena_test

import (
	"testing"

	"midden/api"
	"midden/arena"
)

func TestValidAtBounds(t *testing.T) {
	wide := small()
	wide.Eden = 65536
	for _, c := range []struct {
		what        string
		at          func(*api.Config) *int
		least, most int
	}{
		{"Eden", func(c *api.Config) *int { return &c.Eden }, 64, 65536},
		{"Survivor", func(c *api.Config) *int { return &c.Survivor }, 64, 65536},
		{"Tenured", func(c *api.Config) *int { return &c.Tenured }, 64, 65536},
		{"Large", func(c *api.Config) *int { return &c.Large }, 2, 65536},
		{"Floor", func(c *api.Config) *int { return &c.Floor }, 0, 65536},
		{"Num", func(c *api.Config) *int { return &c.Num }, 1, 65536},
		{"Den", func(c *api.Config) *int { return &c.Den }, 1, 2},
		{"Target", func(c *api.Config) *int { return &c.Target }, 1, 100},
		{"MaxAge", func(c *api.Config) *int { return &c.MaxAge }, 1, 15},
		{"Threads", func(c *api.Config) *int { return &c.Threads }, 1, 8},
		{"Slots", func(c *api.Config) *int { return &c.Slots }, 1, 4096},
		{"Handles", func(c *api.Config) *int { return &c.Handles }, 0, 1024},
		{"Buffer", func(c *api.Config) *int { return &c.Buffer }, 0, 65536},
		{"Workers", func(c *api.Config) *int { return &c.Workers }, 1, 8},
	} {
		for _, n := range append([]int{c.least - 1, c.least, c.least + 1, c.most - 1, c.most, c.most + 1, 0, -c.least, 1 << 16, 1 << 32, 1<<32 + c.least}, odd...) {
			x := wide
			*c.at(&x) = n
			want := n >= c.least && n <= c.most
			if arena.Valid(x) != want {
				t.Errorf("P3.1: Valid with %s %d: %v", c.what, n, !want)
			}
			checkNew(t, x, want)
		}
	}
}

func checkNew(t *testing.T, c api.Config, want bool) {
	t.Helper()
	a, e := arena.New(c)
	switch {
	case want && (a == nil || e != api.OK):
		t.Errorf("P3.2: New(%+v): error %d", c, e)
	case want && a.Config() != c:
		t.Errorf("P3.2: Config() = %+v, want %+v", a.Config(), c)
	case !want && (a != nil || e != api.ErrArenaConfig):
		t.Errorf("P3.2: New(%+v): an arena: %v, error %d, want none, %d", c, a != nil, e, api.ErrArenaConfig)
	}
}

func TestValidOfNumbersTogether(t *testing.T) {
	for _, c := range []struct {
		num, den int
		want     bool
	}{
		{1, 1, true}, {65536, 65536, true}, {65536, 1, true}, {65535, 65536, false}, {65537, 65537, false},
		{3, 3, true}, {3, 4, false}, {0, 0, false}, {-1, -1, false}, {5, 0, false}, {5, -1, false}, {most, most, false}, {1, least, false},
	} {
		x := small()
		x.Num, x.Den = c.num, c.den
		if arena.Valid(x) != c.want {
			t.Errorf("P3.1: Valid with Num %d, Den %d: %v", c.num, c.den, !c.want)
		}
	}
	for _, c := range []struct {
		eden, buffer int
		want         bool
	}{{64, 64, true}, {64, 65, false}, {65, 65, true}, {65536, 65536, true}, {65537, 0, false}, {-1, -1, false}} {
		x := small()
		x.Eden, x.Buffer = c.eden, c.buffer
		if arena.Valid(x) != c.want {
			t.Errorf("P3.1: Valid with Eden %d, Buffer %d: %v", c.eden, c.buffer, !c.want)
		}
	}
	if arena.Valid(api.Config{}) {
		t.Errorf("P3.1: the zero configuration is valid")
	}
}

func TestNewIsEmpty(t *testing.T) {
	for _, sizes := range [][3]int{{64, 64, 64}, {64, 65, 100}, {65, 64, 65536}, {65536, 65536, 65536}, {100, 200, 300}} {
		c := small()
		c.Eden, c.Survivor, c.Tenured = sizes[0], sizes[1], sizes[2]
		a := made(t, c)
		words := 1 + sizes[0] + 2*sizes[1] + sizes[2]
		for at := range words {
			if a.Word(at) != 0 {
				t.Fatalf("P3.2: the word %d of a new arena is %d", at, a.Word(at))
			}
		}
		if !a.SetWord(words-1, 5) || a.Word(words-1) != 5 || a.SetWord(words, 5) || a.Word(words) != 0 {
			t.Errorf("P3.2: it hasn't just %d words", words)
		}
		for _, space := range all {
			first, behind := a.Bounds(space)
			if a.Top(space) != first || a.Free(space) != behind-first || len(walk(a, space)) != 0 {
				t.Errorf("P3.2: space %d isn't empty", space)
			}
		}
		if a.From() != api.SpaceA || a.To() != api.SpaceB {
			t.Errorf("P3.2: from %d, to %d", a.From(), a.To())
		}
	}
}

func TestTwoArenasDontTouch(t *testing.T) {
	a, b := made(t, small()), made(t, small())
	put(t, b, api.SpaceEden, api.Head{Serial: 3, Kind: api.Plain, Ptrs: 1})
	was := imaged(b)
	for _, space := range all {
		put(t, a, space, api.Head{Serial: 9, Kind: api.Plain, Raws: 5})
		fill(t, a, space, 4)
	}
	a.Swap()
	a.SetWord(20, 7)
	if !imaged(b).same(was) {
		t.Errorf("two arenas touch one another")
	}
}
