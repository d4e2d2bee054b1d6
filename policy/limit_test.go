package policy_test

import (
	"math/big"
	"testing"

	"midden/api"
	"midden/policy"
)

func TestLimit(t *testing.T) {
	for _, x := range []struct{ floor, num, den, base, limit int }{
		{30, 2, 1, 0, 30}, {30, 2, 1, 15, 30}, {30, 2, 1, 16, 32}, {30, 2, 1, 14, 30},
		{0, 1, 1, 0, 0}, {0, 1, 1, 77, 77}, {0, 65536, 65536, 77, 77},
		{0, 5, 3, 20, 33}, {0, 5, 3, 19, 31}, {0, 5, 3, 2, 3}, {33, 5, 3, 20, 33}, {34, 5, 3, 20, 34},
		{0, 65536, 65535, 65535, 65536}, {0, 65536, 65535, 65534, 65534},
		{65536, 1, 1, 65536, 65536}, {65536, 2, 1, 32768, 65536}, {65536, 2, 1, 32769, 65538},
		{0, 65536, 1, 1, 65536}, {0, 65536, 1, 65536, 1 << 32}, {0, 65536, 1, 65537, 1 << 32}, {0, 65536, 1, greatest, 1 << 32},
		{0, 2, 1, 65535, 131070}, {0, 2, 1, 65536, 131072}, {0, 2, 1, 65537, 131072},
		{0, 2, 1, -1, 0}, {7, 2, 1, -1, 7}, {0, 65536, 1, least, 0}, {9, 65536, 1, least, 9},
	} {
		c := small()
		c.Floor, c.Num, c.Den = x.floor, x.num, x.den
		if n := policy.Limit(c, x.base); n != x.limit {
			t.Errorf("P12.1: Limit of %d with Floor %d and %d/%d = %d, want %d", x.base, x.floor, x.num, x.den, n, x.limit)
		}
	}
}

// TestLimitIsExact holds it against numbers that can't wrap round.
func TestLimitIsExact(t *testing.T) {
	d := dice(121)
	for range 3000 {
		c := d.config()
		base := d.number(c.Floor, c.Tenured, 0, 65536)
		exact := big.NewInt(int64(min(max(base, 0), 65536)))
		exact.Mul(exact, big.NewInt(int64(c.Num)))
		exact.Quo(exact, big.NewInt(int64(c.Den)))
		if least := big.NewInt(int64(c.Floor)); exact.Cmp(least) < 0 {
			exact = least
		}
		if n := policy.Limit(c, base); exact.Cmp(big.NewInt(int64(n))) != 0 {
			t.Fatalf("P12.1: Limit(%v, %d) = %d, want %v", c, base, n, exact)
		}
	}
}

// unfit are configurations that differ from small by a number that may not be.
func unfit() []api.Config {
	var l []api.Config
	for _, spoil := range []func(c *api.Config){
		func(c *api.Config) { *c = api.Config{} },
		func(c *api.Config) { c.Eden = 63 },
		func(c *api.Config) { c.Survivor = 65537 },
		func(c *api.Config) { c.Tenured = least },
		func(c *api.Config) { c.Large = 1 },
		func(c *api.Config) { c.Floor = -1 },
		func(c *api.Config) { c.Floor = 65537 },
		func(c *api.Config) { c.Den = 0 },
		func(c *api.Config) { c.Num, c.Den = least, -1 },
		func(c *api.Config) { c.Num = 0 },
		func(c *api.Config) { c.Num, c.Den = 2, 3 },
		func(c *api.Config) { c.Num = 65537 },
		func(c *api.Config) { c.Num = greatest },
		func(c *api.Config) { c.Target = 0 },
		func(c *api.Config) { c.MaxAge = 16 },
		func(c *api.Config) { c.Threads = 9 },
		func(c *api.Config) { c.Slots = 0 },
		func(c *api.Config) { c.Handles = 1025 },
		func(c *api.Config) { c.Buffer = 65 },
		func(c *api.Config) { c.Workers = 0 },
	} {
		c := small()
		spoil(&c)
		l = append(l, c)
	}
	return l
}

func TestLimitOfNoConfiguration(t *testing.T) {
	for _, c := range unfit() {
		for _, base := range append(odd, 20, 65536) {
			if n := policy.Limit(c, base); n != 0 {
				t.Errorf("P12.1: Limit(%v, %d) = %d, want 0: it isn't valid", c, base, n)
			}
		}
	}
}

func TestBig(t *testing.T) {
	for _, x := range []struct {
		large, eden, words int
		big                bool
	}{
		{40, 64, 39, false}, {40, 64, 40, true}, {40, 64, 41, true}, {40, 64, 65, true},
		{100, 64, 63, false}, {100, 64, 64, false}, {100, 64, 65, true}, {100, 64, 99, true}, {100, 64, 100, true},
		{64, 64, 63, false}, {64, 64, 64, true}, {65, 64, 64, false}, {65, 64, 65, true},
		{2, 64, 1, false}, {2, 64, 2, true}, {65536, 65536, 65535, false}, {65536, 65536, 65536, true},
		{40, 64, 0, false}, {40, 64, -1, false}, {40, 64, least, false}, {40, 64, greatest, true},
	} {
		c := small()
		c.Large, c.Eden = x.large, x.eden
		if got := policy.Big(c, x.words); got != x.big {
			t.Errorf("P12.1: Big(%d) with Large %d and Eden %d = %v", x.words, x.large, x.eden, got)
		}
	}
}

// TestBigOfNoConfiguration: P12.1 asks nothing else of it than the two numbers.
func TestBigOfNoConfiguration(t *testing.T) {
	for _, large := range odd {
		for _, eden := range odd {
			for _, words := range odd {
				c := api.Config{Large: large, Eden: eden}
				if got, want := policy.Big(c, words), !(words < large && words <= eden); got != want {
					t.Errorf("P12.1: Big(%d) with Large %d and Eden %d = %v", words, large, eden, got)
				}
			}
		}
	}
}
