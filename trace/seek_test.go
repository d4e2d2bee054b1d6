package trace_test

import (
	"slices"
	"sync"
	"testing"

	"midden/api"
	"midden/trace"
)

func TestSeekTellsTheLeast(t *testing.T) {
	a := memory(t)
	for workers := 1; workers <= api.MaxWorkers; workers++ {
		for _, c := range []struct{ from, reached []int }{
			{nil, nil}, {[]int{0}, nil}, {[]int{18}, []int{18}}, {[]int{18, 9, 0}, []int{9, 18}}, {[]int{13}, []int{13, 18}}, {[]int{5}, []int{5, 13, 18}}, {[]int{18, 13, 5, 1}, []int{1, 5, 13, 18}},
		} {
			for from := range 20 {
				told := [3]int{}
				if i := slices.IndexFunc(c.reached, func(at int) bool { return at >= from }); i >= 0 {
					told = [3]int{c.reached[i], 1, 0}
				}
				want(t, "P8.6: Seek", sought(a, c.from, workers, func(at int, _ api.Head) bool { return at >= from }), told)
			}
		}
	}
}

// Objects that stand below, and aren't reached, don't count.
func TestSeekPassesWhatIsNotReached(t *testing.T) {
	a := memory(t)
	last := lay(t, a, api.SpaceTenured, api.Plain, 0)
	want(t, "P8.6: Seek", sought(a, []int{last}, 2, yes), [3]int{last, 1, 0})
	want(t, "P8.6: held weakly alone", sought(a, []int{5}, 2, func(_ int, h api.Head) bool { return h.Raws == 2 }), [3]int{})
}

// What lies higher and is met sooner isn't the answer yet.
func TestSeekGoesOnBehindTheFirst(t *testing.T) {
	const n = 1000
	a := chain(t, n)
	for i := range n {
		back := 0
		if i > 0 {
			back = 1 + 4*(i-1)
		}
		point(t, a, 1+4*i, 0, back)
		point(t, a, 1+4*i, 1, 0)
	}
	for workers := 1; workers <= api.MaxWorkers; workers++ {
		for _, least := range []int{0, 1, 2, 5, 6, 1997, 1998, 4 * (n - 1)} {
			told := (least+2)/4*4 + 1
			want(t, "P8.6: Seek", sought(a, []int{1 + 4*(n-1)}, workers, func(at int, _ api.Head) bool { return at >= least }), [3]int{told, 1, 0})
		}
	}
}

// want is asked about all that is reached, where it takes nothing, with the headers as they stand; about nothing else.
func TestWhatIsAsked(t *testing.T) {
	d := dice(81)
	a, ats := d.memory(t, sized(300, 100, 300), 2)
	reached := model(a, ats[:3], none)
	for workers := 1; workers <= api.MaxWorkers; workers++ {
		var lock sync.Mutex
		asked := map[int]api.Head{}
		trace.Seek(a, ats[:3], workers, func(at int, h api.Head) bool {
			lock.Lock()
			defer lock.Unlock()
			asked[at] = h
			return false
		})
		want(t, "P8.6: how many are asked about", len(asked), len(reached))
		for _, at := range reached {
			if h, _ := a.Head(at); asked[at] != h {
				t.Errorf("P8.6: want is asked about %d, %+v, want %+v", at, asked[at], h)
			}
		}
	}
}

// Where nothing lower can come the workers are stopped.
func TestSeekStops(t *testing.T) {
	const n = 5000
	a := chain(t, n)
	for workers := 1; workers <= api.MaxWorkers; workers++ {
		var lock sync.Mutex
		asked := 0
		want(t, "P8.6: Seek", sought(a, []int{1}, workers, func(int, api.Head) bool {
			lock.Lock()
			defer lock.Unlock()
			asked++
			return true
		}), [3]int{1, 1, 0})
		want(t, "P8.6: asked", asked, 1)
	}
}

// Those below the best one have all been asked about, long before the others are.
func TestSeekStopsBehindOthers(t *testing.T) {
	a := made(t, sized(4000, 64, 64))
	var from []int
	for a.Free(api.SpaceEden) > 0 {
		from = append(from, put(t, a, api.SpaceEden, api.Head{Kind: api.Plain}))
	}
	asked := 0
	want(t, "P8.6: Seek", sought(a, from, 1, func(at int, _ api.Head) bool {
		asked++
		return at > 20
	}), [3]int{21, 1, 0})
	if asked > len(from)/2 {
		t.Errorf("P8.6: Seek goes on where the answer is known: asks about %d", asked)
	}
}

// want may itself look into the arena, and trace it.
func TestWantMayTrace(t *testing.T) {
	a := memory(t)
	got := sought(a, []int{1}, 4, func(at int, _ api.Head) bool {
		n, _, _ := trace.Count(a, []int{at}, 2, 100)
		return n == 2
	})
	want(t, "P8.6: Seek of one that reaches two", got, [3]int{13, 1, 0})
}
