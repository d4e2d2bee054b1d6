package trace_test

import (
	"testing"

	"midden/api"
)

func TestCountAtBudgets(t *testing.T) {
	a := memory(t)
	tooMany := [3]int{0, 0, int(api.ErrTraceBudget)}
	for _, c := range []struct {
		from           []int
		objects, words int
	}{{nil, 0, 0}, {[]int{0, 0}, 0, 0}, {[]int{18}, 1, 2}, {[]int{9, 18, 0, 9}, 2, 6}, {[]int{13}, 2, 7}, {[]int{5}, 3, 11}, {[]int{1, 1}, 4, 15}, {[]int{9, 1}, 5, 19}} {
		for workers := 1; workers <= api.MaxWorkers; workers++ {
			for budget := -3; budget < 8; budget++ {
				told := [3]int{c.objects, c.words, 0}
				if budget < c.objects {
					told = tooMany
				}
				want(t, "P8.5: Count", counted(a, c.from, workers, budget), told)
			}
			want(t, "P8.5: the greatest budget", counted(a, c.from, workers, most), [3]int{c.objects, c.words, 0})
			want(t, "P8.5: the least budget", counted(a, c.from, workers, least), tooMany)
		}
	}
}

func TestCountOfMany(t *testing.T) {
	const n = 5000
	a := chain(t, n)
	for workers := 1; workers <= api.MaxWorkers; workers++ {
		want(t, "P8.5: as many as the budget", counted(a, []int{1 + 4*7}, workers, n), [3]int{n, 4 * n, 0})
		for _, budget := range []int{0, 1, 63, 64, 65, n / 2, n - 1} {
			want(t, "P8.5: more than the budget", counted(a, []int{1 + 4*7}, workers, budget), [3]int{0, 0, int(api.ErrTraceBudget)})
		}
	}
}

// Words count in full, of the greatest objects too.
func TestCountOfWords(t *testing.T) {
	a := made(t, sized(api.MaxSpace, api.MaxSpace, api.MaxSpace))
	var from []int
	for _, space := range all {
		from = append(from, put(t, a, space, api.Head{Kind: api.Plain, Raws: api.MaxSpace - 2}))
	}
	want(t, "P8.5: Count", counted(a, from, 2, 4), [3]int{4, 4 * api.MaxSpace, 0})
}
