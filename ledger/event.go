package ledger

import "midden/api"

// The bounds of what may be.
const (
	maxOp     = 1 << 40
	maxCycles = 8
	maxSize   = 1 << 20
	maxEvents = 1 << 20
)

// mayBe tells whether an event may be.
func mayBe(e api.Event) bool {
	return within(e.Op, 0, maxOp) && within(len(e.Cycles), 1, maxCycles) &&
		allWithin(e.Cycles, api.CycleMinor, api.CycleMajor) && allWithin(sizesOf(e), 0, maxSize)
}

// allMayBe tells whether a list of events may be.
func allMayBe(events []api.Event) bool {
	if len(events) > maxEvents {
		return false
	}
	ahead := -1
	for _, e := range events {
		if !mayBe(e) || e.Op <= ahead {
			return false
		}
		ahead = e.Op
	}
	return true
}

func allWithin(list []int, least, most int) bool {
	for _, n := range list {
		if !within(n, least, most) {
			return false
		}
	}
	return true
}

func within(n, least, most int) bool { return n >= least && n <= most }

// sizesOf tells the eight sizes in the order of the log.
func sizesOf(e api.Event) []int {
	return []int{
		e.Before.Young, e.Before.Tenured, e.Before.Live, e.Before.Fillers,
		e.After.Young, e.After.Tenured, e.After.Live, e.After.Fillers,
	}
}

// words tells those of all objects that are there.
func words(s api.Sizes) int { return s.Young + s.Tenured - s.Fillers }

// growth tells how many words more are tenured; 0, if they are fewer.
func growth(e api.Event) int { return max(0, e.After.Tenured-e.Before.Tenured) }

// tells says how often an event tells a cycle.
func tells(e api.Event, cycle int) int {
	times := 0
	for _, c := range e.Cycles {
		times += one(c == cycle)
	}
	return times
}

// Pause tells what an event's cycles cost.
func Pause(e api.Event) int {
	if !mayBe(e) {
		return 0
	}
	short := tells(e, api.CycleMinor) + tells(e, api.CycleAll)
	long := tells(e, api.CycleMajor)
	return short*(e.After.Young+growth(e)) + long*2*(e.After.Young+e.After.Tenured)
}
