package policy

import "midden/api"

// phase: where a turn is: at what it was made for, then closing, then over.
type phase int

const (
	phaseOver phase = iota
	phaseSmall
	phaseBig
	phaseMinor
	phaseAll
	phaseMajor
	phaseClosing
)

// action tells the step that is to be done now, and may put another action in place of itself.
type action func(t *Turn, v api.View) int

// first tells the phase that a turn begins with.
func first(c api.Config, kind, words int) phase {
	switch kind {
	case api.TurnAlloc:
		if Big(c, words) {
			return phaseBig
		}
		return phaseSmall
	case api.TurnMinor:
		return phaseMinor
	case api.TurnAll:
		return phaseAll
	case api.TurnMajor:
		return phaseMajor
	}
	return phaseClosing
}

func (p phase) action() action {
	switch p {
	case phaseSmall:
		return small
	case phaseBig:
		return big
	case phaseMinor:
		return forced(api.StepMinor)
	case phaseAll:
		return forced(api.StepAll)
	case phaseMajor:
		return major
	case phaseClosing:
		return closing
	}
	return nil
}

func (t *Turn) enter(p phase) { t.do = p.action() }

// lastly tells a step behind which only the closing is left.
func (t *Turn) lastly(step int) int {
	t.enter(phaseClosing)
	return step
}

func small(t *Turn, v api.View) int {
	switch {
	case v.EdenRoom >= t.words:
		return t.lastly(api.StepEden)
	case len(t.cycles) == 0 && guaranteed(v):
		return api.StepMinor
	case !t.ran(api.CycleMajor):
		return api.StepMajor
	case !t.ran(api.CycleAll) && guaranteed(v):
		return api.StepAll
	}
	return t.lastly(api.StepFail)
}

func big(t *Turn, v api.View) int {
	// Not Tenured and words together: their sum may wrap round.
	below := v.Tenured <= t.limit-t.words
	switch {
	case v.TenuredRoom >= t.words && (below || t.ran(api.CycleMajor)):
		return t.lastly(api.StepTenured)
	case !t.ran(api.CycleMajor):
		return api.StepMajor
	}
	return t.lastly(api.StepFail)
}

// forced tells what a turn does whose minor cycle, or promote-all one, was asked for.
func forced(step int) action {
	return func(t *Turn, v api.View) int {
		switch {
		case guaranteed(v):
			return t.lastly(step)
		case !t.ran(api.CycleMajor):
			return api.StepMajor
		}
		t.enter(phaseClosing)
		return t.do(t, v)
	}
}

func major(t *Turn, _ api.View) int { return t.lastly(api.StepMajor) }

func closing(t *Turn, v api.View) int {
	if v.Tenured > t.limit && !t.ran(api.CycleMajor) {
		return api.StepMajor
	}
	t.enter(phaseOver)
	return api.StepEnd
}
