package tenure

// past: the last thresholds, the oldest first. It is a value: one that has more is another one.
type past struct {
	all [16]int
	n   int // of all, those that are there
}

// with tells a past that goes on with one more; the oldest one falls out, if there is no room.
func (p past) with(threshold int) past {
	if p.n == len(p.all) {
		copy(p.all[:], p.all[1:])
		p.n--
	}
	p.all[p.n] = threshold
	p.n++
	return p
}

func (p past) last() int { return p.all[p.n-1] }

// list tells them in memory of its own, which a caller may write into.
func (p past) list() []int {
	l := make([]int, p.n)
	copy(l, p.all[:])
	return l
}
