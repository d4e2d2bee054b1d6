package policy_test

import (
	"testing"

	"midden/api"
)

// memory: what P12.12 lets a memory be: so many words young and tenured; all that outlives a major cycle has at most kept words.
type memory struct {
	c               api.Config
	kept            int
	young, tenured  int
	edenRoom, spare int // spare: words by which the room is greater than it needs to be
}

func (m *memory) view() api.View {
	return view(m.edenRoom, m.young, m.tenured, m.c.Tenured-m.tenured+m.spare)
}

// run does a step; what the cycles leave beyond the promise's words is chance.
func (m *memory) run(d *dice, step int) {
	switch step {
	case api.StepMajor:
		left := m.kept
		if d.below(3) == 0 {
			left = d.below(m.kept + 1)
		}
		m.tenured = min(m.tenured, part(d, left))
		m.young = min(m.young, left-m.tenured)
		m.edenRoom = d.below(m.c.Eden + 1)
	case api.StepMinor:
		moved := part(d, m.young)
		m.young, m.tenured = part(d, m.young-moved), m.tenured+moved
		m.edenRoom = m.c.Eden
	case api.StepAll:
		m.young, m.tenured = 0, m.tenured+part(d, m.young)
		m.edenRoom = m.c.Eden
	}
}

// part tells none of n, all of it, or some.
func part(d *dice, n int) int { return []int{0, n, d.below(n + 1)}[d.below(3)] }

// scene tells a memory, and the greatest size that has room by the promise.
func (d *dice) scene() (*memory, int) {
	c := d.config()
	m := &memory{c: c, kept: part(d, c.Tenured-2), edenRoom: part(d, c.Eden), spare: part(d, 5)}
	m.young = part(d, c.Eden+c.Survivor)
	m.tenured = part(d, c.Tenured)
	return m, c.Tenured - m.kept
}

// TestRoom: P12.12, mostly at its bound.
func TestRoom(t *testing.T) {
	d := dice(1212)
	for range 60000 {
		m, most := d.scene()
		words := most
		if d.below(3) == 0 {
			words = 2 + d.below(most-1)
		}
		base := d.below(m.c.Tenured + 1)
		x := begun(t, m.c, base, api.TurnAlloc, words)
		for range 6 {
			v := m.view()
			step := x.Next(v)
			if step == api.StepFail {
				t.Fatalf("P12.12: %d words fail for %v with at most %d kept and %d tenured in all", words, v, m.kept, m.c.Tenured)
			}
			m.run(&d, step)
		}
	}
}

// TestNoRoom: one word more may fail: the bound is a true one for big sizes; small ones fail where more is kept than the tenured space has.
func TestNoRoom(t *testing.T) {
	for kept := range 62 {
		v := view(64, 0, kept, 100-kept)
		goes(t, "P12.6", begun(t, small(), 0, api.TurnAlloc, 101-kept), told{v, api.StepMajor}, told{v, api.StepFail}, told{v, api.StepEnd})
	}
	for _, young := range []int{1, 64, 101, 128} {
		v := view(0, young, 101-young, young-1)
		goes(t, "P12.5", begun(t, small(), 0, api.TurnAlloc, 2), told{v, api.StepMajor}, told{v, api.StepFail}, told{v, api.StepEnd})
	}
}
