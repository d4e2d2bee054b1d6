package mutator_test

import (
	"fmt"
	"slices"
	"testing"

	"midden/api"
	"midden/mutator"
)

// spoil writes over all lists of a reply, and into the room behind them.
func spoil(r api.Reply) {
	for i := range r.Census {
		fill(r.Census[i], 1<<50)
	}
	fill(r.Census, []uint64{99})
	fill(r.Nums, -9)
	fill(r.Cycles, -9)
	fill(r.Sites, api.Site{Site: -9, Objects: -9, Words: -9})
	fill(r.Bytes, 0xee)
	fill(r.Path, 1<<50)
}

func fill[T any](list []T, x T) {
	list = list[:cap(list)]
	for i := range list {
		list[i] = x
	}
	_ = append(list, x)
}

// TestAnswersAreNew: replies may be written over and appended to; no other one, earlier or later, and nothing of the mutator is touched.
func TestAnswersAreNew(t *testing.T) {
	for seed := range 20 {
		d := dice(3000 + seed)
		c := d.config()
		g := generator{&d, newModel(c), 4}
		spoiled, left := made(t, c), made(t, c)
		var replies []api.Reply
		var were []string
		for i := range 150 {
			o := g.op()
			if i < c.Threads {
				o = push(i, 3)
			}
			r, x := left.Do(o), spoiled.Do(o)
			want(t, fmt.Sprintf("rule 3: %+v behind answers that were written over", o), x, r)
			spoil(x)
			replies, were = append(replies, r), append(were, fmt.Sprintf("%+v", r))
			g.m.follow(o, r, nil)
			for _, q := range []api.Op{counted(), audit(), sites(), dump(), retained(0, 0), path(0, 0), shape(0, 0)} {
				spoil(left.Do(q))
			}
		}
		for i, r := range replies {
			want(t, "rule 3: an earlier answer", r, were[i])
		}
		want(t, "rule 3: the mutator", state(spoiled), state(left))
	}
}

// TestListsOfOneAnswer: no two lists of a census share memory.
func TestListsOfOneAnswer(t *testing.T) {
	m := begun(t, small(), push(0, 3), alloc(0, 0, api.Plain, 0, 0, 0), alloc(0, 1, api.Plain, 0, 0, 0))
	m.Do(minor())
	m.Do(alloc(0, 2, api.Plain, 0, 0, 0))
	lists := m.Do(counted()).Census
	for i := range lists {
		lists[i] = append(lists[i], uint64(100+i))
		fill(lists[i][len(lists[i]):], uint64(100+i))
	}
	want(t, "rule 3: appended to", lists, "[[3 100] [101] [1 2 102] [103]]")
}

// TestLoadKeepsNothing: bytes that are handed in stay as they are, with the room behind them, and what becomes of them later changes nothing.
func TestLoadKeepsNothing(t *testing.T) {
	c := two()
	b := rich(t).Do(dump()).Bytes
	for _, more := range [][]byte{nil, {0}} {
		room := append(append(slices.Clone(b), more...), 7, 8, 9)
		is := slices.Clone(room)
		m, _, e := mutator.Load(c, room[:len(room)-3])
		want(t, "rule 3: bytes that were handed in", room, is)
		want(t, "P19.1", e == api.OK, more == nil)
		if e != api.OK {
			continue
		}
		clear(room)
		does(t, "rule 3: the bytes aren't kept", m, dump(), api.Reply{Bytes: b})
		other := loaded(t, c, b)
		m.Do(put(0, 0, 0, 5))
		m.Do(major())
		does(t, "rule 3: the bytes aren't shared", other, dump(), api.Reply{Bytes: b})
	}
}

// TestErrorsAreNew: an error that was answered never changes, whoever writes into another one.
func TestErrorsAreNew(t *testing.T) {
	for _, text := range []string{"heap", smallText[:len(smallText)-2] + "9\n", smallText + "push"} {
		_, first := mutator.Play(text)
		_, second := mutator.Play(text)
		is := second.Error()
		*first.(*api.Misread) = api.Misread{Line: 77, At: 78, Err: api.ErrMutOp}
		want(t, "rule 4: another error", second.Error(), is)
		_, third := mutator.Play(text)
		want(t, "rule 4: a later error", third.Error(), is)
	}
}

// TestTurns: two mutators used in turns don't touch one another; neither does Play.
func TestTurns(t *testing.T) {
	for seed := range 15 {
		var alone []string
		for _, s := range []int{4000 + seed, 4500 + seed} {
			d := dice(s)
			c := d.config()
			alone = append(alone, turns(t, &d, c, made(t, c), func() {}))
		}
		d, other := dice(4000+seed), dice(4500+seed)
		c, otherC := d.config(), other.config()
		g := generator{&other, newModel(otherC), 4}
		m, n, i, told := made(t, c), made(t, otherC), 0, ""
		got := turns(t, &d, c, m, func() {
			told += one(&g, n, i)
			i++
			mutator.Play(smallText + "push 2\nalloc 0 plain 1 1 1\nmajor\n")
		})
		want(t, "rule 6: one of two", got, alone[0])
		want(t, "rule 6: the other one", told+state(n), alone[1])
	}
}

// turns tells a hundred replies of a mutator, and what it is then; between them something else is done.
func turns(t *testing.T, d *dice, c api.Config, m *mutator.Mutator, between func()) string {
	t.Helper()
	g := generator{d, newModel(c), 4}
	told := ""
	for i := range 100 {
		told += one(&g, m, i)
		between()
	}
	return told + state(m)
}

// one tells the reply to the next operation of a generator.
func one(g *generator, m *mutator.Mutator, i int) string {
	o := g.op()
	if i < g.m.c.Threads {
		o = push(i, 3)
	}
	r := m.Do(o)
	g.m.follow(o, r, nil)
	return fmt.Sprintf("%+v\n", r)
}

// TestSameEveryTime: what is told hangs on what was done alone: not on how many workers mark, not on the run.
func TestSameEveryTime(t *testing.T) {
	for seed := range 10 {
		var told []string
		for _, workers := range []int{1, 1, 2, 8} {
			d := dice(6000 + seed)
			c := d.config()
			c.Workers = workers
			told = append(told, turns(t, &d, c, made(t, c), func() {}))
		}
		for _, x := range told[1:] {
			want(t, "rule 6: another run", x, told[0])
		}
	}
}

// TestQuestionsChangeNothing: of two mutators to which the same is done, the one that is asked all questions between replies as the other one does. (So nothing is changed out of sight: buffers, thresholds, who is remembered.)
func TestQuestionsChangeNothing(t *testing.T) {
	for seed := range 40 {
		d := dice(2000 + seed)
		c := d.config()
		g := generator{&d, newModel(c), d.of(1, 4, 12)}
		m, n := made(t, c), made(t, c)
		for i := range 150 {
			o := g.op()
			if i < c.Threads {
				o = push(i, 3)
			}
			r := m.Do(o)
			want(t, fmt.Sprintf("P19.3: %+v", o), n.Do(o), r)
			g.m.follow(o, r, nil)
			for _, q := range []api.Op{get(0, 0, 0), same(0, 0, 1), hash(0, 1), shape(0, 2), counted(), audit(), sites(), dump(), retained(0, 1), path(0, 0), {Kind: 77}} {
				if x := n.Do(q); len(x.Cycles) != 0 {
					t.Errorf("P19.3: %+v runs %v", q, x.Cycles)
				}
			}
			if t.Failed() {
				t.Fatalf("seed %d", seed)
			}
		}
	}
}
