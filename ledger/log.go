package ledger

import (
	"slices"

	"midden/api"
)

// log: the events of a run, and what it comes to.
type log struct {
	events []api.Event
	sum    api.Cost
}

// Events tells the operations so far that ran cycles.
func (l *log) Events() []api.Event {
	events := slices.Clone(l.events)
	for i := range events {
		events[i].Cycles = slices.Clone(events[i].Cycles)
	}
	return events
}

// Sum tells what the run comes to so far.
func (l *log) Sum() api.Cost { return l.sum }

// Bytes tells the log.
func (l *log) Bytes() []byte {
	b, _ := Write(l.events) // more events than a log may have leave no bytes
	return b
}

// count counts an operation that made an object of so many words (0: none).
func (l *log) count(made int) {
	l.sum.Ops++
	if made > 0 {
		l.sum.Made++
	}
}

// enter lays down the event of an operation that made an object of so many words (0: none).
func (l *log) enter(e api.Event, made int) {
	l.events = append(l.events, e)
	pause := Pause(e)
	l.sum.Minors += tells(e, api.CycleMinor)
	l.sum.Alls += tells(e, api.CycleAll)
	l.sum.Majors += tells(e, api.CycleMajor)
	l.sum.Failed += one(e.Failed)
	l.sum.Freed += words(e.Before) + made - words(e.After)
	l.sum.Promoted += promoted(e)
	l.sum.Worst = max(l.sum.Worst, pause)
	l.sum.Total += pause
}

// promoted tells the words that came to be tenured, where no major cycle took others away.
func promoted(e api.Event) int {
	if tells(e, api.CycleMajor) > 0 {
		return 0
	}
	return growth(e)
}

// one tells a yes as the number 1.
func one(yes bool) int {
	if yes {
		return 1
	}
	return 0
}
