package policy_test

import (
	"testing"

	"midden/api"
)

// Each path ends with an end that doesn't hang on the view any more.
func TestSmall(t *testing.T) {
	eden, tight, crowded := view(10, 54, 30, 70), view(9, 55, 30, 70), view(9, 71, 30, 70)
	over := view(10, 54, 41, 59)
	for _, x := range []struct {
		what   string
		steps  []told
		cycles []int
	}{
		{"room in eden", []told{{eden, api.StepEden}, {eden, api.StepEnd}}, nil},
		{"room in eden, above the limit", []told{{over, api.StepEden}, {over, api.StepMajor}, {over, api.StepEnd}}, []int{api.CycleMajor}},
		{"room behind a minor one", []told{{tight, api.StepMinor}, {eden, api.StepEden}, {eden, api.StepEnd}}, []int{api.CycleMinor}},
		{"room behind a minor one, above the limit", []told{{tight, api.StepMinor}, {over, api.StepEden}, {over, api.StepMajor}, {over, api.StepEnd}}, []int{api.CycleMinor, api.CycleMajor}},
		{"room behind a minor and a major one", []told{{tight, api.StepMinor}, {tight, api.StepMajor}, {eden, api.StepEden}, {over, api.StepEnd}}, []int{api.CycleMinor, api.CycleMajor}},
		{"room behind all three", []told{{tight, api.StepMinor}, {tight, api.StepMajor}, {tight, api.StepAll}, {eden, api.StepEden}, {over, api.StepEnd}}, []int{api.CycleMinor, api.CycleMajor, api.CycleAll}},
		{"no room behind all three", []told{{tight, api.StepMinor}, {tight, api.StepMajor}, {tight, api.StepAll}, {tight, api.StepFail}, {over, api.StepEnd}}, []int{api.CycleMinor, api.CycleMajor, api.CycleAll}},
		{"a second minor one isn't guaranteed", []told{{tight, api.StepMinor}, {crowded, api.StepMajor}, {crowded, api.StepFail}, {over, api.StepEnd}}, []int{api.CycleMinor, api.CycleMajor}},
		{"not guaranteed, room behind a major one", []told{{crowded, api.StepMajor}, {eden, api.StepEden}, {over, api.StepEnd}}, []int{api.CycleMajor}},
		{"not guaranteed, then it is", []told{{crowded, api.StepMajor}, {tight, api.StepAll}, {eden, api.StepEden}, {over, api.StepEnd}}, []int{api.CycleMajor, api.CycleAll}},
		{"not guaranteed, no room", []told{{crowded, api.StepMajor}, {tight, api.StepAll}, {tight, api.StepFail}, {over, api.StepEnd}}, []int{api.CycleMajor, api.CycleAll}},
		{"never guaranteed", []told{{crowded, api.StepMajor}, {crowded, api.StepFail}, {over, api.StepEnd}}, []int{api.CycleMajor}},
	} {
		turn := begun(t, small(), 20, api.TurnAlloc, 10)
		goes(t, "P12.5: "+x.what, turn, x.steps...)
		goes(t, "P12.8: behind the end: "+x.what, turn, told{over, api.StepEnd}, told{crowded, api.StepEnd})
		ran(t, "P12.9: "+x.what, turn, x.cycles...)
	}
}

// TestSmallAtEdges: one word decides.
func TestSmallAtEdges(t *testing.T) {
	for _, words := range []int{2, 3, 38, 39} {
		goes(t, "P12.5: just room", begun(t, small(), 0, api.TurnAlloc, words), told{view(words, 0, 0, 0), api.StepEden})
		goes(t, "P12.5: a word short", begun(t, small(), 0, api.TurnAlloc, words), told{view(words-1, 0, 0, 0), api.StepMinor})
	}
	for _, young := range []int{0, 1, 64, 128, greatest} {
		goes(t, "P12.3: just guaranteed", begun(t, small(), 0, api.TurnAlloc, 2), told{view(1, young, 0, young), api.StepMinor})
		goes(t, "P12.3: a word short", begun(t, small(), 0, api.TurnAlloc, 2), told{view(1, young, 0, young-1), step(young == 0, api.StepMinor, api.StepMajor)})
	}
}

func step(yes bool, then, otherwise int) int {
	if yes {
		return then
	}
	return otherwise
}

// TestWhichIsBig: the phases differ where eden has room and the tenured space hasn't.
func TestWhichIsBig(t *testing.T) {
	for _, x := range []struct{ large, words, step int }{
		{40, 39, api.StepEden}, {40, 40, api.StepMajor}, {100, 64, api.StepEden}, {100, 65, api.StepMajor}, {65, 65, api.StepMajor}, {2, 2, api.StepMajor},
	} {
		c := small()
		c.Large = x.large
		goes(t, "P12.5, P12.6: which is big", begun(t, c, 0, api.TurnAlloc, x.words), told{view(100, 0, 100, 0), x.step})
	}
}

func TestBigOnes(t *testing.T) {
	room, above, full := view(64, 0, 0, 45), view(64, 0, 1, 45), view(64, 0, 0, 39)
	over := view(64, 0, 41, 59)
	for _, x := range []struct {
		what   string
		steps  []told
		cycles []int
	}{
		{"room", []told{{room, api.StepTenured}, {room, api.StepEnd}}, nil},
		{"room, above the limit at the end", []told{{room, api.StepTenured}, {over, api.StepMajor}, {over, api.StepEnd}}, []int{api.CycleMajor}},
		{"above the limit", []told{{above, api.StepMajor}, {room, api.StepTenured}, {over, api.StepEnd}}, []int{api.CycleMajor}},
		{"above the limit still", []told{{above, api.StepMajor}, {above, api.StepTenured}, {over, api.StepEnd}}, []int{api.CycleMajor}},
		{"above the limit, no room behind it", []told{{above, api.StepMajor}, {full, api.StepFail}, {over, api.StepEnd}}, []int{api.CycleMajor}},
		{"no room", []told{{full, api.StepMajor}, {full, api.StepFail}, {over, api.StepEnd}}, []int{api.CycleMajor}},
		{"no room, then there is", []told{{full, api.StepMajor}, {room, api.StepTenured}, {over, api.StepEnd}}, []int{api.CycleMajor}},
	} {
		turn := begun(t, small(), 20, api.TurnAlloc, 40)
		goes(t, "P12.6: "+x.what, turn, x.steps...)
		goes(t, "P12.8: behind the end: "+x.what, turn, told{over, api.StepEnd}, told{full, api.StepEnd})
		ran(t, "P12.9: "+x.what, turn, x.cycles...)
	}
}

// TestBigAtEdges: one word decides; sums are exact, however great.
func TestBigAtEdges(t *testing.T) {
	for _, x := range []struct{ words, tenured, room, step int }{
		{40, 0, 40, api.StepTenured}, {40, 0, 39, api.StepMajor}, {40, 1, 99, api.StepMajor}, {41, 0, 99, api.StepMajor},
		{40, -1, 40, api.StepTenured}, {41, -1, 99, api.StepMajor}, {41, least, 99, api.StepMajor}, {greatest, least, greatest, api.StepMajor},
		{greatest, 0, greatest, api.StepMajor}, {greatest, 1, greatest, api.StepMajor}, {greatest, greatest, greatest, api.StepMajor},
		{greatest, 3, greatest, api.StepMajor}, {40, greatest, greatest, api.StepMajor}, {40, greatest - 39, 64, api.StepMajor},
		{1 << 62, 1 << 62, greatest, api.StepMajor}, {40, 0, greatest, api.StepTenured}, {40, 0, least, api.StepMajor},
	} {
		goes(t, "P12.6", begun(t, small(), 20, api.TurnAlloc, x.words), told{view(0, 0, x.tenured, x.room), x.step})
	}
}

// TestBigBehindMajor: the limit counts no more then, the room alone.
func TestBigBehindMajor(t *testing.T) {
	for _, words := range []int{40, 64, 65, 1000, greatest} {
		for _, x := range []struct{ tenured, room, step int }{
			{greatest, words, api.StepTenured}, {0, words, api.StepTenured}, {0, words - 1, api.StepFail}, {greatest, words - 1, api.StepFail},
		} {
			turn := begun(t, small(), 0, api.TurnAlloc, words)
			goes(t, "P12.6", turn, told{view(0, 0, 0, 0), api.StepMajor}, told{view(0, 0, x.tenured, x.room), x.step}, told{view(0, 0, greatest, 0), api.StepEnd})
		}
	}
}

// TestBigLooksAtTenuredAlone: eden's room and the young words count for nothing.
func TestBigLooksAtTenuredAlone(t *testing.T) {
	for _, n := range odd {
		for _, m := range odd {
			turn := begun(t, small(), 20, api.TurnAlloc, 40)
			goes(t, "P12.6", turn, told{view(n, m, 1, 99), api.StepMajor}, told{view(n, m, 61, 39), api.StepFail}, told{view(n, m, 61, 39), api.StepEnd})
			goes(t, "P12.6", begun(t, small(), 20, api.TurnAlloc, 40), told{view(n, m, 0, 40), api.StepTenured})
		}
	}
}
