package lens

import (
	"slices"

	"midden/bag"
)

// tree: who dominates whom.
type tree struct {
	order []int // the numbers that ways lead to, 0 first, a dominator ahead of all that it dominates
	above []int // by number its dominator; nobody, if no ways lead to it
}

// treeOf tells the tree of dominators over some ways from 0 on.
func treeOf(ways [][]int) tree {
	d := goDeep(ways)
	t := tree{order: d.order, above: nobodies(len(ways))}
	for place, dominator := range d.dominators() {
		t.above[d.order[place]] = d.order[dominator]
	}
	return t
}

// gathered tells by number its words and those of all that it dominates, near or far; 0 at what no ways lead to.
func (t tree) gathered(words []int) []int {
	all := make([]int, len(words))
	for _, n := range slices.Backward(t.order) {
		all[n] += words[n]
		if n != 0 {
			all[t.above[n]] += all[n]
		}
	}
	return all
}

// dive: some ways as they are gone through from 0 on, deep first. A number's place tells when it was met: that of 0 is 0.
type dive struct {
	order []int   // by place the number
	place []int   // by number its place; nobody, if no ways lead to it
	above []int   // by place that from which it was met
	from  [][]int // by place those from which ways lead to it
}

// step: a way, by the place from which and the number to which it leads.
type step struct {
	from, to int
}

func goDeep(ways [][]int) *dive {
	d := &dive{place: nobodies(len(ways))}
	open, _ := bag.NewStack[step](0)
	for s, ok := (step{}), true; ok; s, ok = open.Pop() {
		if d.place[s.to] != nobody {
			continue // it was met from deeper down, since this way was seen
		}
		at := d.meet(s)
		for _, to := range ways[s.to] {
			if d.place[to] == nobody {
				open.Push(step{at, to})
			}
		}
	}
	d.lookBack(ways)
	return d
}

// meet gives a number the next place, and tells it.
func (d *dive) meet(s step) int {
	at := len(d.order)
	d.place[s.to] = at
	d.order = append(d.order, s.to)
	d.above = append(d.above, s.from)
	return at
}

func (d *dive) lookBack(ways [][]int) {
	d.from = make([][]int, len(d.order))
	for at, n := range d.order {
		for _, to := range ways[n] {
			d.from[d.place[to]] = append(d.from[d.place[to]], at)
		}
	}
}
