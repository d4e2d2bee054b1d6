package marks

import (
	"iter"
	"slices"
)

// Runs gives the runs of marked words: where each begins, how long it is.
func (m *Map) Runs() iter.Seq2[int, int] { return m.runs(0, m.words) }

// runs gives those of the words from one up to ahead of another; one that goes on beyond these is cut there.
func (m *Map) runs(from, behind int) iter.Seq2[int, int] {
	return func(yield func(int, int) bool) {
		// The marks may be changed while one goes through the runs.
		then := slices.Clone(m.bits)
		for first := seek(then, from, behind, 0); first < behind; {
			end := seek(then, first, behind, ^uint64(0))
			if !yield(first, end-first) {
				return
			}
			first = seek(then, end, behind, 0)
		}
	}
}
