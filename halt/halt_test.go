package halt_test

import (
	"sync"
	"testing"

	"midden/halt"
)

func TestWish(t *testing.T) {
	var w, other halt.Wish
	for range 2 {
		if halt.Closed(w.Done()) {
			t.Error("P17.8, P22.3: a wish that wasn't uttered")
		}
	}
	ahead := w.Done()
	for range 3 {
		w.Utter()
		if !halt.Closed(w.Done()) || !halt.Closed(ahead) {
			t.Error("P17.8, P22.3: one that was uttered")
		}
	}
	if halt.Closed(other.Done()) {
		t.Error("P17.8, P22.3: another wish")
	}
	other.Utter()
	if !halt.Closed(other.Done()) {
		t.Error("P17.8, P22.3: one that nobody asked about ahead of it")
	}
}

func TestClosed(t *testing.T) {
	c := make(chan struct{})
	if halt.Closed(nil) || halt.Closed(c) {
		t.Error("P17.8, P22.3: a channel that isn't closed")
	}
	close(c)
	if !halt.Closed(c) || !halt.Closed(c) {
		t.Error("P17.8, P22.3: one that is")
	}
}

// TestAtOnce: many utter one wish and ask about it; all have the same channel.
func TestAtOnce(t *testing.T) {
	for range 50 {
		var w halt.Wish
		var group sync.WaitGroup
		seen := make([]<-chan struct{}, 16)
		for i := range seen {
			group.Add(1)
			go func() {
				defer group.Done()
				if i%2 == 0 {
					w.Utter()
				}
				seen[i] = w.Done()
				<-seen[i]
			}()
		}
		group.Wait()
		for _, c := range seen {
			if c != w.Done() {
				t.Error("P17.8, P22.3: another channel")
			}
		}
	}
}
