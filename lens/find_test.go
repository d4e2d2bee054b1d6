package lens_test

import (
	"fmt"
	"runtime"
	"slices"
	"sync"
	"sync/atomic"
	"testing"
	"time"

	"midden/api"
	"midden/lens"
)

func everyone(api.Object) bool { return true }

func noOne(api.Object) bool { return false }

// found tells what Find answers, as one thing.
func found(g api.Graph, workers int, c *lens.Cancel, takes func(o api.Object) bool) [2]int {
	n, e := lens.Find(g, workers, c, takes)
	return [2]int{n, int(e)}
}

// numberedGraph tells a graph of n objects whose serials are their numbers, and which may not be.
func numberedGraph(n int) api.Graph {
	var g api.Graph
	for i := range n {
		g.Objects = append(g.Objects, api.Object{Serial: uint64(i + 1)})
	}
	return g
}

func TestFind(t *testing.T) {
	const n = 700
	g := numberedGraph(n)
	for workers := 1; workers <= api.MaxWorkers; workers++ {
		for _, c := range []*lens.Cancel{nil, lens.NewCancel()} {
			want(t, "P17.7: everyone", found(g, workers, c, everyone), [2]int{1, 0})
			want(t, "P17.7: no one", found(g, workers, c, noOne), [2]int{0, 0})
			want(t, "P17.7: no objects", found(api.Graph{}, workers, c, everyone), [2]int{0, 0})
			want(t, "P17.7: one object", found(numberedGraph(1), workers, c, everyone), [2]int{1, 0})
			for _, from := range []uint64{2, 3, 63, 64, 65, 350, n - 1, n} {
				want(t, "P17.7: from one on", found(g, workers, c, func(o api.Object) bool { return o.Serial >= from }), [2]int{int(from), 0})
				want(t, "P17.7: one alone", found(g, workers, c, func(o api.Object) bool { return o.Serial == from }), [2]int{int(from), 0})
				want(t, "P17.7: up to one", found(g, workers, c, func(o api.Object) bool { return o.Serial <= from }), [2]int{1, 0})
			}
		}
	}
}

// A lesser one counts though want is slow to take it, and others have been taken by then.
func TestFindWaitsForLesserOnes(t *testing.T) {
	g := numberedGraph(200)
	for workers := 1; workers <= api.MaxWorkers; workers++ {
		want(t, "P17.7: a slow one", found(g, workers, nil, func(o api.Object) bool {
			if o.Serial%7 == 5 {
				time.Sleep(2 * time.Millisecond)
			}
			return o.Serial >= 40
		}), [2]int{40, 0})
	}
}

// All objects of a graph are looked at, in Reach or not, known or not, whatever they are.
func TestFindTakesAllGraphs(t *testing.T) {
	for workers := 1; workers <= api.MaxWorkers; workers++ {
		for _, x := range append(wrong(), spoilt{"one that may be", mixed()}) {
			for i := range x.g.Objects {
				is := fmt.Sprint(x.g.Objects[i])
				want(t, "P17.7: "+x.what, found(x.g, workers, nil, func(o api.Object) bool { return fmt.Sprint(o) == is }), [2]int{i + 1, 0})
			}
		}
	}
	g := api.Graph{Objects: []api.Object{{Kind: least, Site: greatest, Ptrs: []int{least, 7}}, {Kind: greatest, Site: least, Raws: []uint64{1<<64 - 1}}}}
	want(t, "P17.7: any numbers", found(g, 3, nil, func(o api.Object) bool { return o.Site < 0 }), [2]int{2, 0})
}

// want is handed the objects as they are; each is asked about, if none is taken.
func TestFindHandsObjects(t *testing.T) {
	g := mixed()
	for workers := 1; workers <= api.MaxWorkers; workers++ {
		var lock sync.Mutex
		var asked []string
		found(g, workers, lens.NewCancel(), func(o api.Object) bool {
			lock.Lock()
			defer lock.Unlock()
			asked = append(asked, fmt.Sprint(o))
			return false
		})
		slices.Sort(asked)
		var is []string
		for _, o := range g.Objects {
			is = append(is, fmt.Sprint(o))
		}
		slices.Sort(is)
		want(t, "P17.7: what want is handed", slices.Compact(asked), is)
	}
}

// Copies: what want writes into them changes no graph, and no other copy.
func TestFindHandsCopies(t *testing.T) {
	g := spares()
	is := all(g)
	for workers := 1; workers <= api.MaxWorkers; workers++ {
		want(t, "P17.7: want writes into what it is handed", found(g, workers, nil, func(o api.Object) bool {
			for i := range o.Ptrs[:cap(o.Ptrs)] {
				o.Ptrs[:cap(o.Ptrs)][i] = 1000
			}
			for i := range o.Raws[:cap(o.Raws)] {
				o.Raws[:cap(o.Raws)][i] = 1000
			}
			o.Ptrs, o.Raws = append(o.Ptrs, 5), append(o.Raws, 5)
			return o.Serial == 9
		}), [2]int{9, 0})
		want(t, "P17.7, rule 3: the graph", all(g), is)
	}
}

func TestFindByWorkersThatMayNotBe(t *testing.T) {
	cancelled := lens.NewCancel()
	cancelled.Cancel()
	asked := false
	ask := func(api.Object) bool { asked = true; return true }
	for _, workers := range append([]int{9, 10, 257}, odd...) {
		for _, c := range []*lens.Cancel{nil, lens.NewCancel(), cancelled} {
			want(t, "P17.7: workers that may not be", found(example(), workers, c, ask), [2]int{0, int(api.ErrTraceWorkers)})
			want(t, "P17.7: workers that may not be", found(api.Graph{}, workers, c, ask), [2]int{0, int(api.ErrTraceWorkers)})
		}
	}
	want(t, "P17.7: asked beside an error", asked, false)
}

func TestFindCancelledAhead(t *testing.T) {
	asked := false
	ask := func(api.Object) bool { asked = true; return true }
	c := lens.NewCancel()
	c.Cancel()
	for workers := 1; workers <= api.MaxWorkers; workers++ {
		for _, g := range []api.Graph{{}, example(), mixed(), numberedGraph(300)} {
			want(t, "P17.7: cancelled ahead", found(g, workers, c, ask), [2]int{0, int(api.ErrLensCancelled)})
			want(t, "P17.7: another Cancel", found(g, workers, lens.NewCancel(), noOne), [2]int{0, 0})
		}
	}
	want(t, "P17.7: asked though it was cancelled", asked, false)
}

// Cancelled by want itself: few are asked about behind that.
func TestFindCancelledFromWithin(t *testing.T) {
	g := numberedGraph(20000)
	for workers := 1; workers <= api.MaxWorkers; workers++ {
		c := lens.NewCancel()
		var behind atomic.Int64
		lens.Find(g, workers, c, func(o api.Object) bool {
			if c.Cancelled() {
				behind.Add(1)
			}
			if o.Serial == 50 {
				c.Cancel()
			}
			return false
		})
		if behind.Load() > int64(2*workers) {
			t.Errorf("P17.7: by %d workers %d are asked about though it was cancelled", workers, behind.Load())
		}
		want(t, "P17.8: cancelled from within", c.Cancelled(), true)
	}
}

// Cancelled by somebody else, at any time: the call ends, with an answer that may be.
func TestFindCancelledFromWithout(t *testing.T) {
	g := numberedGraph(3000)
	for round := range 40 {
		c := lens.NewCancel()
		begun := make(chan struct{})
		var once sync.Once
		go func() {
			<-begun
			c.Cancel()
		}()
		n, e := lens.Find(g, 1+round%8, c, func(o api.Object) bool {
			if o.Serial > uint64(round) {
				once.Do(func() { close(begun) })
			}
			return o.Serial == 3000
		})
		if e != api.OK && (e != api.ErrLensCancelled || n != 0) {
			t.Errorf("P17.7: cancelled meanwhile: %d, error %d", n, e)
		}
	}
}

// Behind a Find its Cancel is what it was, and serves others.
func TestFindLeavesItsCancel(t *testing.T) {
	c := lens.NewCancel()
	for range 10 {
		want(t, "P17.7", found(example(), 3, c, everyone), [2]int{1, 0})
		want(t, "P17.8: Find cancels nothing", c.Cancelled(), false)
	}
	var group sync.WaitGroup
	said := make([][2]int, 8)
	for i := range said {
		group.Add(1)
		go func() {
			defer group.Done()
			said[i] = found(numberedGraph(500), i+1, c, func(o api.Object) bool { return o.Serial > 400 })
		}()
	}
	group.Wait()
	for _, is := range said {
		want(t, "P17.7: several at once with one Cancel", is, [2]int{401, 0})
	}
}

// Where one is taken those above it needn't be asked about.
func TestFindStops(t *testing.T) {
	g := numberedGraph(20000)
	for workers := 1; workers <= api.MaxWorkers; workers++ {
		var asked atomic.Int64
		found(g, workers, nil, func(o api.Object) bool { asked.Add(1); return true })
		if asked.Load() > 1000 {
			t.Errorf("P17.7: Find goes on where the answer is known: %d are asked about", asked.Load())
		}
	}
}

// Several workers do ask at once: as many wait for one another as there are.
func TestFindAsksAtOnce(t *testing.T) {
	for workers := 1; workers <= api.MaxWorkers; workers++ {
		var group sync.WaitGroup
		group.Add(workers)
		want(t, "P17.7: want waits for the others", found(numberedGraph(workers), workers, nil, func(o api.Object) bool {
			group.Done()
			group.Wait()
			return o.Serial == uint64(workers)
		}), [2]int{workers, 0})
	}
}

// want may itself call Find, and all else.
func TestWantMayLook(t *testing.T) {
	g := example()
	want(t, "P17.7: want looks itself", found(g, 4, nil, func(o api.Object) bool {
		n := found(g, 2, lens.NewCancel(), func(other api.Object) bool { return other.Serial == o.Serial })
		list, _ := lens.Path(g, n[0])
		return len(list) == 3
	}), [2]int{4, 0})
}

// settled waits until no more goroutines run than so many: one that has ended takes a moment to be gone.
func settled(n int) bool {
	for range 2000 {
		if runtime.NumGoroutine() <= n {
			return true
		}
		time.Sleep(time.Millisecond)
	}
	return false
}

func TestWorkersEnd(t *testing.T) {
	g := numberedGraph(1000)
	ahead := runtime.NumGoroutine()
	for workers := 1; workers <= api.MaxWorkers; workers++ {
		for range 10 {
			c := lens.NewCancel()
			found(g, workers, nil, noOne)
			found(g, workers, c, everyone)
			found(g, workers, c, func(o api.Object) bool { return o.Serial == 1000 })
			found(g, workers, c, func(o api.Object) bool {
				if o.Serial == 500 {
					c.Cancel()
				}
				return false
			})
			found(g, workers, c, everyone)
			found(g, workers+8, c, everyone)
		}
	}
	if !settled(ahead) {
		t.Errorf("P17.9: %d goroutines, %d ahead of the calls", runtime.NumGoroutine(), ahead)
	}
}

// No worker still asks when the answer is there, cancelled or not.
func TestNobodyAsksBehindTheAnswer(t *testing.T) {
	g := numberedGraph(60)
	for round := range 40 {
		var asking atomic.Int64
		c := lens.NewCancel()
		lens.Find(g, 8, c, func(o api.Object) bool {
			asking.Add(1)
			defer asking.Add(-1)
			if round%2 == 0 && o.Serial == 9 {
				c.Cancel()
			}
			time.Sleep(time.Duration(o.Serial%5) * 100 * time.Microsecond)
			return o.Serial > 20
		})
		want(t, "P17.9: workers that ask behind the answer", asking.Load(), 0)
	}
}

// However many workers there are, the answer is the same, and that of going through.
func TestFindAgainstTheModel(t *testing.T) {
	for seed := range 200 {
		d := dice(40000 + seed)
		g := d.graph(1+d.below(40), 3, kinds[3]...)
		kind, raws := d.below(5), d.below(4)
		takes := func(o api.Object) bool { return o.Kind == kind && len(o.Raws) >= raws }
		is := [2]int{1 + slices.IndexFunc(g.Objects, takes), 0}
		for workers := 1; workers <= api.MaxWorkers; workers++ {
			want(t, fmt.Sprint("P17.9: Find by ", workers), found(g, workers, lens.NewCancel(), takes), is)
		}
	}
}
