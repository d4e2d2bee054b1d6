package marks_test

import (
	"testing"

	"midden/marks"
)

func TestRunsAtTheEdges(t *testing.T) {
	for _, words := range sizes[1:] {
		m := made(t, words)
		set(t, m, 0, words)
		want(t, "P4.4: all marked", runs(m.Runs()), []run{{0, words}})
		m.Clear()
		want(t, "P4.4: none marked", len(runs(m.Runs())), 0)
		set(t, m, words-1, 1)
		want(t, "P4.4: the last one marked", runs(m.Runs()), []run{{words - 1, 1}})
	}
	want(t, "P4.4: no words", len(runs(made(t, 0).Runs())), 0)
}

func TestRunsAreTheGreatest(t *testing.T) {
	m := made(t, 300)
	for _, at := range []int{70, 62, 64, 63, 65, 200, 191, 192, 0} {
		set(t, m, at, 1)
	}
	want(t, "P4.4: laid one by one", runs(m.Runs()), []run{{0, 1}, {62, 4}, {70, 1}, {191, 2}, {200, 1}})
	for at := 0; at < 300; at += 2 {
		set(t, m, at, 1)
	}
	want(t, "P4.4: each second one", runs(m.Runs()), modelled(m).runs())
	for at := 1; at < 300; at += 2 {
		set(t, m, at, 1)
	}
	want(t, "P4.4: all of them", runs(m.Runs()), []run{{0, 300}})
}

func TestRunsOfTheGreatestMap(t *testing.T) {
	m := made(t, limit)
	for at := 1; at < limit; at += 2 {
		set(t, m, at, 1)
	}
	n := 0
	for first, words := range m.Runs() {
		if first != 2*n+1 || words != 1 {
			t.Fatalf("P4.4: run %d: %d %d", n, first, words)
		}
		n++
	}
	want(t, "P4.4: how many", n, limit/2)
}

func TestRunsStandAsTheyBegan(t *testing.T) {
	l := []run{{0, 2}, {60, 10}, {100, 1}, {190, 10}}
	for name, change := range map[string]func(*marks.Map){
		"cleared": func(m *marks.Map) { m.Clear() },
		"filled":  func(m *marks.Map) { set(t, m, 0, 200) },
		"joined":  func(m *marks.Map) { set(t, m, 2, 58) },
		"turned": func(m *marks.Map) {
			m.Clear()
			set(t, m, 101, 60)
		},
	} {
		for at := range l {
			m := laid(t, 200, l...)
			var got []run
			for first, n := range m.Runs() {
				if len(got) == at {
					change(m)
				}
				got = append(got, run{first, n})
			}
			want(t, "P4.4: "+name+" meanwhile", got, l)
			want(t, "P4.4: "+name+", once more", runs(m.Runs()), modelled(m).runs())
		}
	}
}

func TestRunsBeginWhenGoneThrough(t *testing.T) {
	m := laid(t, 200, run{5, 5})
	seq := m.Runs()
	set(t, m, 100, 1)
	want(t, "P4.4: marked ahead of the first going through", runs(seq), []run{{5, 5}, {100, 1}})
	m.Clear()
	want(t, "P4.4: cleared ahead of the second", len(runs(seq)), 0)
	set(t, m, 64, 64)
	want(t, "P4.4: marked ahead of the third", runs(seq), []run{{64, 64}})
}

func TestRunsAreLeftEarlyAndGoneThroughAgain(t *testing.T) {
	l := []run{{0, 1}, {63, 2}, {127, 2}, {199, 1}}
	seq := laid(t, 200, l...).Runs()
	for leave := range l {
		met := 0
		for first, n := range seq {
			want(t, "P4.4: ahead of leaving", run{first, n}, l[met])
			if met == leave {
				break
			}
			met++
		}
		want(t, "P4.4: left at", met, leave)
		want(t, "P4.4: again", runs(seq), l)
	}
}

func TestRunsAreGoneThroughWhileGoneThrough(t *testing.T) {
	l := []run{{1, 1}, {64, 64}, {130, 3}}
	m := laid(t, 200, l...)
	seq := m.Runs()
	var outer []run
	for first, n := range seq {
		outer = append(outer, run{first, n})
		if len(outer) == 1 {
			want(t, "P4.4: the inner one", runs(seq), l)
			m.Clear()
			set(t, m, 3, 4)
		} else {
			want(t, "P4.4: the inner one, behind a change", runs(seq), []run{{3, 4}})
		}
	}
	want(t, "P4.4: the outer one", outer, l)
}
