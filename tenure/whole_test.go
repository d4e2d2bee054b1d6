package tenure_test

import (
	"slices"
	"testing"

	"midden/api"
)

// TestModel holds all calls against the chapter's words.
func TestModel(t *testing.T) {
	d := dice(7)
	for range 400 {
		survivor, target, most := d.sizes()
		x, m := made(t, survivor, target, most), newModel(survivor, target, most)
		for range 40 {
			words := d.ages()
			if d.below(8) == 0 {
				words[d.below(16)] = odd[d.below(len(odd))]
			}
			n, e := x.Turn(words)
			wantN, wantE := m.turn(words)
			if n != wantN || e != wantE {
				t.Fatalf("P7.3: New(%d, %d, %d), Turn(%v) = %d, %d, want %d, %d", survivor, target, most, words, n, e, wantN, wantE)
			}
			if got, want := told(x), m.told(); got != want {
				t.Fatalf("P7.2, P7.4: New(%d, %d, %d), Turn(%v): %s, want %s", survivor, target, most, words, got, want)
			}
		}
	}
}

// TestAlwaysWithin: P7.5's first and last sentence.
func TestAlwaysWithin(t *testing.T) {
	d := dice(75)
	for range 2000 {
		survivor, target, most := d.sizes()
		x := made(t, survivor, target, most)
		for range 4 {
			words := d.ages()
			n, e := x.Turn(words)
			if e != api.OK || n < 1 || n > most || x.Threshold() != n {
				t.Fatalf("P7.5: New(%d, %d, %d), Turn(%v) = %d, %d: not 1 to %d", survivor, target, most, words, n, e, most)
			}
			if sum := together(words, n-1); sum > survivor*target/100 {
				t.Fatalf("P7.5: New(%d, %d, %d), Turn(%v) = %d: %d words stay below it", survivor, target, most, words, n, sum)
			}
			if slices.Max(x.History()) > most || slices.Min(x.History()) < 1 {
				t.Fatalf("P7.5: History() = %v, not 1 to %d", x.History(), most)
			}
		}
	}
}

// TestMoreIsSooner: P7.5's second sentence, at every age.
func TestMoreIsSooner(t *testing.T) {
	d := dice(752)
	for range 500 {
		survivor, target, most := d.sizes()
		x := made(t, survivor, target, most)
		words := d.ages()
		n, _ := x.Turn(words)
		for age := range words {
			more := words
			more[age] += d.below(65537 - words[age])
			if got, e := x.Turn(more); e != api.OK || got > n {
				t.Fatalf("P7.5: New(%d, %d, %d): Turn(%v) = %d, but %d, %d for the greater %v", survivor, target, most, words, n, got, e, more)
			}
		}
	}
}
