package ledger_test

import (
	"fmt"
	"testing"

	"midden/api"
	"midden/ledger"
)

func pauses(t *testing.T, what string, e api.Event, n int) {
	t.Helper()
	want(t, fmt.Sprintf("P21.4: %s: %+v", what, e), ledger.Pause(e), n)
}

func TestPause(t *testing.T) {
	grown := func(cycles ...int) api.Event { return event(9, sizes(40, 10, 3, 5), sizes(7, 15, 6, 9), cycles...) }
	fallen := func(cycles ...int) api.Event { return event(9, sizes(40, 10, 3, 5), sizes(7, 3, 6, 9), cycles...) }
	for _, x := range []struct {
		what string
		e    api.Event
		n    int
	}{
		{"a minor one", grown(1), 7 + 5},
		{"one that promotes all", grown(2), 7 + 5},
		{"a major one", grown(3), 2 * (7 + 15)},
		{"two minor ones", grown(1, 1), 2 * (7 + 5)},
		{"two major ones", grown(3, 3), 2 * 2 * (7 + 15)},
		{"one of each", grown(1, 3, 2), 2*(7+5) + 2*(7+15)},
		{"one of each, the other way round", grown(2, 3, 1), 2*(7+5) + 2*(7+15)},
		{"eight", grown(1, 2, 3, 1, 2, 3, 1, 2), 6*(7+5) + 2*2*(7+15)},
		{"a minor one, where Tenured fell", fallen(1), 7},
		{"one that promotes all, where Tenured fell", fallen(2), 7},
		{"a major one, where Tenured fell", fallen(3), 2 * (7 + 3)},
		{"a major and a minor one, where Tenured fell", fallen(3, 1), 2*(7+3) + 7},
		{"Failed costs nothing of its own", failed(grown(3)), 2 * (7 + 15)},
		{"nothing lies about", plain(0), 0},
		{"only Before has sizes", event(1, sizes(5, 6, 7, 8), sizes(0, 0, 0, 0), 1, 2, 3), 0},
		{"only what counts nothing", event(1, sizes(5, 0, 7, 8), sizes(0, 0, 9, 9), 1, 2, 3), 0},
		{"the greatest", event(lastOp, sizes(0, 0, 0, 0), sizes(lastSize, lastSize, lastSize, lastSize), 3, 3, 3, 3, 3, 3, 3, 3), 8 * 4 * lastSize},
		{"the greatest minor ones", event(lastOp, sizes(0, 0, 0, 0), sizes(lastSize, lastSize, 0, 0), 1, 1, 1, 1, 2, 2, 2, 2), 8 * 2 * lastSize},
	} {
		pauses(t, x.what, x.e, x.n)
	}
}

// TestPauseOfWhatMayNotBe: 0, however much its cycles would cost.
func TestPauseOfWhatMayNotBe(t *testing.T) {
	for _, x := range wrongs() {
		e := event(5, sizes(40, 10, 3, 5), sizes(7, 15, 6, 9), 1, 3)
		x.change(&e)
		pauses(t, x.what, e, 0)
	}
	for _, x := range rights() {
		e := event(5, sizes(40, 10, 3, 5), sizes(700, 15, 6, 9), 1, 3)
		x.change(&e)
		if ledger.Pause(e) == 0 {
			t.Errorf("P21.4: %s: %+v costs nothing", x.what, e)
		}
	}
}
