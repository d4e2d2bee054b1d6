package policy_test

import (
	"testing"

	"midden/api"
	"midden/policy"
)

// TestExamples: those of the chapter, by their numbers.
func TestExamples(t *testing.T) {
	c := small()
	want(t, "example 1: Limit(c, 10)", policy.Limit(c, 10), 30)
	want(t, "example 1: Limit(c, 20)", policy.Limit(c, 20), 40)
	want(t, "example 1: Big(c, 40)", policy.Big(c, 40), true)
	want(t, "example 1: Big(c, 39)", policy.Big(c, 39), false)

	x := begun(t, c, 20, api.TurnAlloc, 10)
	goes(t, "example 2", x, told{view(12, 52, 35, 65), api.StepEden}, told{view(2, 62, 35, 65), api.StepEnd})
	ran(t, "example 2", x)

	x = begun(t, c, 20, api.TurnAlloc, 10)
	goes(t, "example 2", x, told{view(5, 59, 35, 65), api.StepMinor}, told{view(64, 20, 45, 55), api.StepEden},
		told{view(54, 30, 45, 55), api.StepMajor}, told{view(60, 24, 33, 67), api.StepEnd})
	want(t, "example 2: Base", x.Base(view(60, 24, 33, 67)), 33)
	ran(t, "example 2", x, api.CycleMinor, api.CycleMajor)

	x = begun(t, c, 20, api.TurnAlloc, 10)
	goes(t, "example 3", x, told{view(5, 90, 60, 40), api.StepMajor}, told{view(5, 59, 30, 70), api.StepAll},
		told{view(64, 0, 89, 11), api.StepEden})
	x = begun(t, c, 20, api.TurnAlloc, 10)
	goes(t, "example 3", x, told{view(5, 90, 60, 40), api.StepMajor}, told{view(5, 80, 30, 70), api.StepFail},
		told{view(5, 80, 30, 70), api.StepEnd})

	x = begun(t, c, 0, api.TurnAlloc, 45)
	goes(t, "example 4", x, told{view(64, 0, 0, 100), api.StepMajor}, told{view(64, 0, 0, 100), api.StepTenured},
		told{view(64, 0, 45, 55), api.StepEnd})

	x = begun(t, c, 0, api.TurnMinor, 0)
	goes(t, "example 5", x, told{view(14, 50, 60, 40), api.StepMajor}, told{view(19, 45, 50, 50), api.StepMinor},
		told{view(64, 0, 90, 10), api.StepEnd})
	x = begun(t, c, 0, api.TurnMinor, 0)
	goes(t, "example 5", x, told{view(14, 50, 60, 40), api.StepMajor}, told{view(9, 55, 50, 50), api.StepEnd})
}
