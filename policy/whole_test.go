package policy_test

import (
	"slices"
	"testing"

	"midden/api"
	"midden/policy"
)

// model: the chapter, word for word. It keeps the steps that were told, and reckons all else from them.
type model struct {
	c                 api.Config
	base, kind, words int
	limit             int
	steps             []int
}

func (m *model) count(steps ...int) int {
	n := 0
	for _, s := range m.steps {
		if slices.Contains(steps, s) {
			n++
		}
	}
	return n
}

func (m *model) major() bool { return m.count(api.StepMajor) > 0 }

// closes tells whether all is done that the turn was made for.
func (m *model) closes() bool {
	switch m.kind {
	case api.TurnAlloc:
		return m.count(api.StepEden, api.StepTenured, api.StepFail) > 0
	case api.TurnMinor:
		return m.count(api.StepMinor) > 0
	case api.TurnAll:
		return m.count(api.StepAll) > 0
	case api.TurnMajor:
		return m.major()
	}
	return true
}

func (m *model) next(v api.View) int {
	for _, n := range []*int{&v.EdenRoom, &v.Young, &v.Tenured, &v.TenuredRoom} {
		if *n < 0 {
			*n = 0
		}
	}
	step := api.StepEnd
	if m.count(api.StepEnd) == 0 {
		step = m.tell(v)
	}
	m.steps = append(m.steps, step)
	return step
}

func (m *model) tell(v api.View) int {
	if !m.closes() {
		switch {
		case m.kind == api.TurnMajor:
			return api.StepMajor
		case m.kind != api.TurnAlloc:
			if v.Young <= v.TenuredRoom {
				return step(m.kind == api.TurnMinor, api.StepMinor, api.StepAll)
			}
			if !m.major() {
				return api.StepMajor
			}
		case m.words >= m.c.Large || m.words > m.c.Eden:
			return m.big(v)
		default:
			return m.small(v)
		}
	}
	if v.Tenured > m.limit && !m.major() {
		return api.StepMajor
	}
	return api.StepEnd
}

func (m *model) small(v api.View) int {
	sure := v.Young <= v.TenuredRoom
	if v.EdenRoom >= m.words {
		return api.StepEden
	}
	if len(m.steps) == 0 && sure {
		return api.StepMinor
	}
	if !m.major() {
		return api.StepMajor
	}
	if m.count(api.StepAll) == 0 && sure {
		return api.StepAll
	}
	return api.StepFail
}

func (m *model) big(v api.View) int {
	together := uint64(v.Tenured) + uint64(m.words)
	if v.TenuredRoom >= m.words && (together <= uint64(m.limit) || m.major()) {
		return api.StepTenured
	}
	if !m.major() {
		return api.StepMajor
	}
	return api.StepFail
}

func (m *model) baseOf(v api.View) int {
	if m.major() {
		return max(v.Tenured, 0)
	}
	return m.base
}

func (m *model) cycles() []int {
	var l []int
	for _, s := range m.steps {
		switch s {
		case api.StepMinor:
			l = append(l, api.CycleMinor)
		case api.StepAll:
			l = append(l, api.CycleAll)
		case api.StepMajor:
			l = append(l, api.CycleMajor)
		}
	}
	return l
}

// turned tells a turn and the model of it, with numbers about each other's edges.
func (d *dice) turned(t *testing.T) (*policy.Turn, *model) {
	t.Helper()
	c := d.config()
	m := &model{c: c, kind: kinds[d.below(len(kinds))]}
	if d.below(2) == 0 {
		m.kind = api.TurnAlloc
	}
	m.base = max(0, d.number(c.Floor, c.Tenured, 0))
	m.limit = policy.Limit(c, m.base)
	m.words = max(2, d.number(c.Large, c.Eden, c.Tenured, 3))
	return begun(t, c, m.base, m.kind, m.words), m
}

// view tells one whose numbers lie about the model's edges.
func (d *dice) view(m *model) api.View {
	v := view(d.number(m.words, m.c.Eden, 0), d.number(m.c.Tenured, 40, 0), d.number(m.limit, m.limit-m.words, m.c.Tenured, 0), d.number(m.words, m.c.Tenured, 40))
	if d.below(3) == 0 {
		v.TenuredRoom = v.Young + d.below(3) - 1
	}
	return v
}

// TestModel holds all calls against the chapter's words, in turns of all kinds.
func TestModel(t *testing.T) {
	d := dice(12)
	for range 40000 {
		x, m := d.turned(t)
		for range 7 {
			v := d.view(m)
			got, wanted := x.Next(v), m.next(v)
			if got != wanted {
				t.Fatalf("P12.4: Begin(%v, %d, %d, %d), limit %d: %v is %s behind %v, want %s", m.c, m.base, m.kind, m.words, m.limit, v, named(got), m.steps, named(wanted))
			}
			u := d.view(m)
			if got := x.Base(u); got != m.baseOf(u) {
				t.Fatalf("P12.9: Base(%v) = %d behind %v, want %d", u, got, m.steps, m.baseOf(u))
			}
			if got := x.Cycles(); !slices.Equal(got, m.cycles()) {
				t.Fatalf("P12.9: Cycles() = %v behind %v", got, m.steps)
			}
		}
	}
}

// TestEvenly goes through all runs of small turns over a few views, five steps and an end deep.
func TestEvenly(t *testing.T) {
	views := []api.View{view(10, 50, 40, 60), view(9, 50, 0, 50), view(9, 51, 41, 50), view(9, 50, 41, 50), view(64, 0, 0, 45), view(64, 51, 1, 45)}
	for _, kind := range kinds {
		for _, words := range []int{10, 40} {
			for run := range 6 * 6 * 6 * 6 * 6 * 6 {
				x, m := begun(t, small(), 20, kind, words), &model{c: small(), base: 20, kind: kind, words: words, limit: 40}
				for n := run; len(m.steps) < 6; n /= 6 {
					v := views[n%6]
					got, wanted := x.Next(v), m.next(v)
					if got != wanted {
						t.Fatalf("P12.4: kind %d of %d words: %v is %s behind %v, want %s", kind, words, v, named(got), m.steps, named(wanted))
					}
				}
				if got := m.steps[5]; got != api.StepEnd {
					t.Fatalf("P12.10: %v", m.steps)
				}
			}
		}
	}
}

// TestSteps: P12.10 and P12.11, whatever the views are.
func TestSteps(t *testing.T) {
	d := dice(1210)
	for range 40000 {
		x, m := d.turned(t)
		var v api.View
		for len(m.steps) < 6 && m.count(api.StepEnd) == 0 {
			v = d.view(m)
			step := x.Next(v)
			if step == api.StepFail && !m.major() {
				t.Fatalf("P12.11: a failure behind %v alone", m.steps)
			}
			if (step == api.StepMinor || step == api.StepAll) && max(v.Young, 0) > max(v.TenuredRoom, 0) {
				t.Fatalf("P12.11: %s for %v, which isn't guaranteed", named(step), v)
			}
			m.steps = append(m.steps, step)
		}
		checkSteps(t, m, v)
	}
}

func checkSteps(t *testing.T, m *model, last api.View) {
	t.Helper()
	if m.count(api.StepEnd) != 1 {
		t.Fatalf("P12.10: no end within five steps: %v", m.steps)
	}
	if m.count(api.StepMajor) > 1 || m.count(api.StepMinor) > 1 || m.count(api.StepAll) > 1 {
		t.Fatalf("P12.10: a cycle twice: %v", m.steps)
	}
	wanted := 0
	if m.kind == api.TurnAlloc {
		wanted = 1
	}
	if m.count(api.StepEden, api.StepTenured, api.StepFail) != wanted {
		t.Fatalf("P12.10: kind %d: %v", m.kind, m.steps)
	}
	if !m.major() && last.Tenured > m.limit {
		t.Fatalf("P12.11: it ends at %v above the limit %d: %v", last, m.limit, m.steps)
	}
}

// TestCallsHangOnNothingElse: the same turn tells the same again.
func TestCallsHangOnNothingElse(t *testing.T) {
	d := dice(126)
	for range 2000 {
		x, m := d.turned(t)
		y := begun(t, m.c, m.base, m.kind, m.words)
		for range 7 {
			v := d.view(m)
			if a, b := x.Next(v), y.Next(v); a != b {
				t.Fatalf("rule 6: %s and %s for %v", named(a), named(b), v)
			}
		}
	}
}
