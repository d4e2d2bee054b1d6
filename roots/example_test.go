package roots_test

import (
	"testing"

	"midden/api"
	"midden/roots"
)

// TestExamples: the chapter's examples, the second one behind the first.
func TestExamples(t *testing.T) {
	r := made(t, 2, 4, 2)
	exampleFrames(t, r)
	exampleHandles(t, r)
	exampleQueue(t, r)
}

func exampleFrames(t *testing.T, r *roots.Roots) {
	want(t, "P5.2", []int{int(r.Push(0, 3)), int(r.Push(0, 2)), int(r.Push(0, 1))}, []int{0, 53, 0})
	want(t, "P5.2: Frames(0)", r.Frames(0), []int{3, 1})
	want(t, "P5.3", []int{int(r.Set(0, 0, 9)), int(r.Set(0, 1, 9))}, []int{0, 52})
	want(t, "P5.2: Pop(0)", r.Pop(0), api.OK)
	want(t, "P5.3: Set(0, 2, 7)", r.Set(0, 2, 7), api.OK)
	want(t, "P5.6: All", r.All(), []int{7})
	want(t, "P5.2: Push(1, 0)", int(r.Push(1, 0)), 50)
	_, e := r.Get(1, 0)
	want(t, "P5.3: Get(1, 0)", int(e), 54)
	_, e = r.Get(2, 0)
	want(t, "P5.3: Get(2, 0)", int(e), 51)
}

func exampleHandles(t *testing.T, r *roots.Roots) {
	for i, at := range []int{5, 6} {
		h, e := r.Open(at)
		want(t, "P5.4: Open", []int{h, int(e)}, []int{i, 0})
	}
	h, e := r.Open(7)
	want(t, "P5.4: Open(7)", []int{h, int(e)}, []int{0, 56})
	want(t, "P5.4: Close(0)", r.Close(0), api.OK)
	want(t, "P5.4: Handles", r.Handles(), []int{-1, 6})
	h, e = r.Open(0)
	want(t, "P5.4: Open(0)", []int{h, int(e)}, []int{0, 0})
	want(t, "P5.4: Handles", r.Handles(), []int{0, 6})
}

func exampleQueue(t *testing.T, r *roots.Roots) {
	enqueue(r, 8, 0, 3)
	want(t, "P5.5: Queue", r.Queue(), []int{8, 0, 3})
	want(t, "P5.6: All", r.All(), []int{7, 6, 8, 3})
	var asked []int
	r.Update(func(at int) int {
		asked = append(asked, at)
		return at + 10
	})
	want(t, "P5.6: Update asks", asked, []int{7, 6, 8, 3})
	want(t, "P5.8: All", r.All(), []int{17, 16, 18, 13})
	want(t, "P5.6: Queue", r.Queue(), []int{18, 0, 13})
	at, ok := r.Dequeue()
	want(t, "P5.5: Dequeue", []any{at, ok}, []any{18, true})
}
