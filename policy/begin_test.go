package policy_test

import (
	"testing"

	"midden/api"
	"midden/policy"
)

func refused(t *testing.T, c api.Config, base, kind, words int, why api.Errno) {
	t.Helper()
	if x, e := policy.Begin(c, base, kind, words); x != nil || e != why {
		t.Errorf("P12.2: Begin(%v, %d, %d, %d): %v and error %d, want none and %d", c, base, kind, words, x, e, why)
	}
}

func TestBeginRefusesConfigurations(t *testing.T) {
	for _, c := range unfit() {
		refused(t, c, 0, api.TurnPlain, 0, api.ErrArenaConfig)
		refused(t, c, 0, api.TurnAlloc, 10, api.ErrArenaConfig)
		refused(t, c, -1, api.TurnNone, 1, api.ErrArenaConfig)
	}
}

func TestBeginRefusesKinds(t *testing.T) {
	for _, kind := range append(odd, 6, 7) {
		if kind == api.TurnAlloc {
			continue
		}
		refused(t, small(), 0, kind, 10, api.ErrPolicyKind)
		refused(t, small(), -1, kind, 1, api.ErrPolicyKind)
	}
}

func TestBeginRefusesSizes(t *testing.T) {
	for _, kind := range kinds {
		refused(t, small(), -1, kind, 10, api.ErrPolicySize)
		refused(t, small(), least, kind, 10, api.ErrPolicySize)
		begun(t, small(), 0, kind, 10)
		begun(t, small(), greatest, kind, 10)
	}
	for _, words := range []int{1, 0, -1, least} {
		refused(t, small(), 0, api.TurnAlloc, words, api.ErrPolicySize)
	}
	for _, words := range []int{2, 65536, 65537, greatest} {
		begun(t, small(), 0, api.TurnAlloc, words)
	}
}

// TestWordsOfOtherKinds: whatever they are, they count for nothing.
func TestWordsOfOtherKinds(t *testing.T) {
	views := []api.View{view(12, 90, 45, 55), view(0, 30, 41, 59), view(64, 0, 71, 29), view(64, 0, 71, 29), view(64, 0, 71, 29)}
	for _, kind := range kinds[1:] {
		first := begun(t, small(), 20, kind, 10)
		var steps []told
		for _, v := range views {
			steps = append(steps, told{v, first.Next(v)})
		}
		for _, words := range append(odd, 2, 40, 64, 65) {
			goes(t, "P12.2: words count for nothing", begun(t, small(), 20, kind, words), steps...)
		}
	}
}

// TestTurnsLimit: it is Limit of the base, at its edges.
func TestTurnsLimit(t *testing.T) {
	d := dice(122)
	for range 1000 {
		c := d.config()
		base := max(0, d.number(c.Floor, c.Tenured, 0, 65536))
		limit := policy.Limit(c, base)
		goes(t, "P12.2, P12.8: at the limit", begun(t, c, base, api.TurnPlain, 0), told{view(0, 0, limit, 0), api.StepEnd})
		goes(t, "P12.2, P12.8: above the limit", begun(t, c, base, api.TurnPlain, 0), told{view(0, 0, limit+1, 0), api.StepMajor})
	}
}

// TestConfigurationIsLookedAtOnce: what is done to the caller's own behind Begin changes nothing.
func TestConfigurationIsLookedAtOnce(t *testing.T) {
	c := small()
	x := begun(t, c, 20, api.TurnAlloc, 10)
	c.Large, c.Floor, c.Eden = 2, 0, 0
	goes(t, "rule 3: a configuration isn't kept", x, told{view(12, 52, 40, 60), api.StepEden}, told{view(2, 62, 40, 60), api.StepEnd})
}
