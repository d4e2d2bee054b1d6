package trace_test

import (
	"fmt"
	"runtime"
	"slices"
	"sync"
	"sync/atomic"
	"testing"
	"time"

	"midden/api"
	"midden/arena"
	"midden/marks"
	"midden/trace"
)

// against holds all calls from a list, by so many workers, to the model.
func against(t *testing.T, a *arena.Arena, from, before []int, workers int) {
	t.Helper()
	m := fresh(t, a, before...)
	past := func(at int) bool { return slices.Contains(before, at) }
	newly := model(a, from, past)
	mark(t, "P8.7", a, m, from, workers, len(newly))
	all := append(wordsOf(a, newly...), before...)
	slices.Sort(all)
	if all = slices.Compact(all); !slices.Equal(marked(m), all) {
		t.Errorf("P8.7: Mark from %v by %d, with %v: marked %v, want %v", from, workers, before, marked(m), all)
	}
	reached := model(a, from, none)
	words := wordsIn(a, reached)
	want(t, "P8.7: Count", counted(a, from, workers, len(reached)), [3]int{len(reached), words, 0})
	want(t, "P8.7: Count", counted(a, from, workers, len(reached)-1), [3]int{0, 0, int(api.ErrTraceBudget)})
	for kind := api.Plain; kind <= api.Final; kind++ {
		takes := func(at int, h api.Head) bool { return h.Kind == kind && at%3 != 0 }
		told := [3]int{}
		for _, at := range slices.Backward(reached) {
			if h, _ := a.Head(at); takes(at, h) {
				told = [3]int{at, 1, 0}
			}
		}
		want(t, "P8.7: Seek", sought(a, from, workers, takes), told)
	}
}

func TestAgainstTheModel(t *testing.T) {
	d := dice(8)
	for round := range 120 {
		c := sized(64+d.below(200), 64+d.below(100), 64+d.below(300))
		a, ats := d.memory(t, c, 1+d.below(4))
		was := image(a)
		for workers := 1; workers <= api.MaxWorkers; workers++ {
			var before []int
			if round%2 == 0 {
				for range d.below(30) {
					before = append(before, d.below(words(a)))
				}
			}
			against(t, a, d.some(ats, 5), before, workers)
		}
		if !slices.Equal(image(a), was) {
			t.Error("no call changes the arena: another one now")
		}
	}
}

// A great arena, full of objects that hold one another across all spaces.
func TestGreatArena(t *testing.T) {
	a := made(t, sized(api.MaxSpace, api.MaxSpace, api.MaxSpace))
	var ats []int
	for _, space := range all {
		for a.Free(space) >= 4 {
			ats = append(ats, put(t, a, space, api.Head{Kind: api.Plain, Ptrs: 2}))
		}
	}
	for i, at := range ats {
		if 2*i+2 < len(ats) {
			point(t, a, at, 0, ats[2*i+1])
			point(t, a, at, 1, ats[2*i+2])
		}
	}
	for _, workers := range []int{1, 3, 8} {
		m := fresh(t, a)
		mark(t, "P8.7", a, m, []int{1}, workers, len(ats)-(len(ats)+1)%2)
		want(t, "P8.7: marked words", m.Count(0, words(a)), 4*(len(ats)-(len(ats)+1)%2))
	}
}

// Behind Mark with no mark ahead of it each marked object leads to marked ones alone.
func TestMarksAreClosed(t *testing.T) {
	d := dice(88)
	for range 60 {
		a, ats := d.memory(t, sized(200, 64, 200), 1+d.below(3))
		m := fresh(t, a)
		trace.Mark(a, m, d.some(ats, 4), 1+d.below(8))
		for _, at := range ats {
			if !m.Has(at) {
				continue
			}
			for _, to := range model(a, []int{at}, none) {
				if !m.Has(to) {
					t.Errorf("P8.8: %d is marked, and %d, to which it leads, isn't", at, to)
				}
			}
		}
	}
}

func TestMarkOfTwoLists(t *testing.T) {
	d := dice(888)
	for range 60 {
		a, ats := d.memory(t, sized(200, 64, 200), 1+d.below(3))
		one, two := d.some(ats, 4), d.some(ats, 4)
		m, both := fresh(t, a), fresh(t, a)
		n, _ := trace.Mark(a, m, one, 1+d.below(8))
		k, _ := trace.Mark(a, m, two, 1+d.below(8))
		all, _ := trace.Mark(a, both, slices.Concat(one, two), 1+d.below(8))
		want(t, "P8.8: how many, from one list and another", n+k, all)
		want(t, "P8.8: marked from one list and another", marked(m), marked(both))
	}
}

// What is handed in stays, its spare room too.
func TestListsHandedInStay(t *testing.T) {
	a := memory(t)
	whole := []int{18, 0, 9, 1, 9, 77, 78, 79, 80}
	was := slices.Clone(whole)
	from := whole[:5]
	for workers := 1; workers <= api.MaxWorkers; workers++ {
		mark(t, "P8.4", a, fresh(t, a), from, workers, 5)
		counted(a, from, workers, 9)
		sought(a, from, workers, yes)
	}
	want(t, "rule 3: what was handed in", whole, was)
}

// settled waits until no more goroutines run than so many: one that has ended takes a moment to be gone.
func settled(n int) bool {
	for range 2000 {
		if runtime.NumGoroutine() <= n {
			return true
		}
		time.Sleep(time.Millisecond)
	}
	return false
}

func TestWorkersEnd(t *testing.T) {
	a := chain(t, 500)
	before := runtime.NumGoroutine()
	for range 20 {
		trace.Mark(a, fresh(t, a), []int{1}, 8)
		trace.Count(a, []int{1}, 8, 3)
		trace.Count(a, []int{0}, 8, 3)
		trace.Count(a, []int{2}, 8, 3)
		trace.Seek(a, []int{1}, 8, yes)
		trace.Seek(a, []int{1}, 8, func(at int, _ api.Head) bool { return at > 900 })
	}
	if !settled(before) {
		t.Errorf("P8.7: %d goroutines, %d ahead of the calls", runtime.NumGoroutine(), before)
	}
}

// No worker still asks when the answer is there.
func TestNobodyAsksBehindTheAnswer(t *testing.T) {
	a := made(t, small())
	var from []int
	for range 30 {
		from = append(from, lay(t, a, api.SpaceTenured, api.Plain))
	}
	for range 20 {
		var asking atomic.Int64
		trace.Seek(a, from, 8, func(at int, _ api.Head) bool {
			asking.Add(1)
			defer asking.Add(-1)
			if at > from[0] {
				runtime.Gosched()
			}
			return true
		})
		want(t, "P8.7: workers that ask behind the answer", asking.Load(), 0)
	}
}

// Several may trace one arena at once, each with a map of its own.
func TestTracingAtOnce(t *testing.T) {
	a := memory(t)
	var group sync.WaitGroup
	said := make([]string, 8)
	for i := range said {
		m := fresh(t, a)
		group.Add(1)
		go func() {
			defer group.Done()
			n, e := trace.Mark(a, m, []int{1}, i+1)
			said[i] = fmt.Sprint(n, int(e), counted(a, []int{1}, i+1, 4), sought(a, []int{13}, i+1, yes))
		}()
	}
	group.Wait()
	for _, s := range said {
		want(t, "P8.7", s, "4 0 [4 15 0] [13 1 0]")
	}
}

// answers tells all that the calls answer from a list, and the marks.
func answers(a *arena.Arena, m *marks.Map, from []int, workers int) string {
	n, e := trace.Mark(a, m, from, workers)
	at, ok, f := trace.Seek(a, from, workers, func(at int, h api.Head) bool { return (at+h.Site)%3 == 0 })
	return fmt.Sprint(n, int(e), marked(m), counted(a, from, workers, most), counted(a, from, workers, 20), at, ok, int(f))
}

// Words that are no sound memory: all calls end, and tell the same, by however many workers.
func TestUnsoundMemory(t *testing.T) {
	d := dice(8888)
	for range 60 {
		a, ats := d.memory(t, small(), 1)
		for range d.below(40) {
			w := d.word() >> d.below(64)
			if d.below(2) == 0 {
				w = a.Word(1 + d.below(words(a)-1))
			}
			a.SetWord(1+d.below(words(a)-1), w)
		}
		from := []int{}
		for _, at := range append(d.some(ats, 6), 1+d.below(words(a)-1)) {
			if _, ok := a.Head(at); ok {
				from = append(from, at)
			}
		}
		told := answers(a, fresh(t, a), from, 1)
		for workers := 2; workers <= api.MaxWorkers; workers++ {
			want(t, "P8.7: unsound memory", answers(a, fresh(t, a), from, workers), told)
		}
	}
}
