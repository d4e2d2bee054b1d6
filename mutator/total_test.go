package mutator_test

import (
	"fmt"
	"slices"
	"testing"

	"midden/api"
	"midden/mutator"
	"midden/script"
)

// any tells a number: a small one, one at a bound, or an odd one.
func (d *dice) any() int {
	switch d.below(8) {
	case 0:
		return odd[d.below(len(odd))]
	case 1:
		return d.of(63, 64, 65, 100, 101, 255, 256, 1023, 1024, 1025, 4095, 4096, 4097, 65535, 65536, 65537)
	case 2:
		return int(d.word())
	}
	return d.below(8) - 2
}

// TestAnyOperation: P20.9: whatever an operation's fields are, it is replied to, and what is refused changes nothing.
func TestAnyOperation(t *testing.T) {
	for seed := range 30 {
		d := dice(40000 + seed)
		r := beginsIn(t, &d, d.config())
		for range 40 {
			o := api.Op{Kind: d.below(27), Thread: d.any(), A: d.any(), B: d.any(), C: d.any(), D: d.any(), E: d.any(), Word: d.word()}
			if d.below(3) > 0 {
				o.Thread = d.below(r.m.c.Threads)
			}
			if d.below(10) == 0 {
				o.Kind = d.any()
			}
			r.does(t, o)
			r.does(t, r.op())
		}
	}
}

// valid: P3.1.
func valid(c api.Config) bool {
	within := func(n, first, last int) bool { return n >= first && n <= last }
	return within(c.Eden, 64, 65536) && within(c.Survivor, 64, 65536) && within(c.Tenured, 64, 65536) && within(c.Large, 2, 65536) && within(c.Floor, 0, 65536) &&
		c.Den >= 1 && within(c.Num, c.Den, 65536) && within(c.Target, 1, 100) && within(c.MaxAge, 1, 15) && within(c.Threads, 1, 8) && within(c.Slots, 1, 4096) && within(c.Handles, 0, 1024) &&
		within(c.Buffer, 0, c.Eden) && within(c.Workers, 1, 8)
}

// TestAnyConfiguration: P20.9: it is taken or refused, by New, Load and Play alike; what is taken replies.
func TestAnyConfiguration(t *testing.T) {
	taken := 0
	b := made(t, small()).Do(dump()).Bytes
	for seed := range 1500 {
		d := dice(50000 + seed)
		c := d.config()
		for range d.below(3) {
			s := settings[d.below(len(settings))]
			*s.at(&c) = d.of(d.any(), s.first, s.last, s.first-1, s.last+1)
		}
		wanted := map[bool]api.Errno{true: api.OK, false: api.ErrArenaConfig}[valid(c)]
		m, e := mutator.New(c)
		want(t, fmt.Sprintf("P20.9: New(%+v)", c), fmt.Sprint(e, m != nil), fmt.Sprint(wanted, valid(c)))
		_, _, e = mutator.Load(c, b)
		want(t, fmt.Sprintf("P20.9: Load(%+v)", c), slices.Contains([]api.Errno{wanted, api.ErrImageRoom}, e) && (e == api.ErrImageRoom) == (valid(c) && (c.Threads != 1 || c.Handles != 2)), true)
		if text, err := script.Print(api.Script{Config: c}); err == nil {
			_, err := mutator.Play(text)
			want(t, fmt.Sprintf("P20.9: Play in %+v", c), err == nil, valid(c))
		}
		if m == nil {
			continue
		}
		taken++
		goes(t, "P20.9", m, step{push(0, 1), api.Reply{}}, step{hash(0, 0), refused(api.ErrHeapNull)}, step{major(), cycled(api.CycleMajor)}, step{minor(), cycled(api.CycleMinor)})
		want(t, fmt.Sprintf("P20.3: an object of 2 words in %+v", c), m.Do(alloc(0, 0, api.Plain, 0, 0, 0)).Word, 1)
	}
	if taken < 300 || taken > 1400 {
		t.Errorf("P20.9: %d of 1500 configurations are taken", taken)
	}
}

// TestAnyText: P20.9: changed and cut texts are refused as Parse refuses them, or played.
func TestAnyText(t *testing.T) {
	for seed := range 60 {
		d := dice(60000 + seed)
		c := d.config()
		g := generator{&d, newModel(c), 3}
		m := made(t, c)
		var ops []api.Op
		for i := range 25 {
			o := g.op()
			if i < c.Threads {
				o = push(i, 3)
			}
			g.m.follow(o, m.Do(o), nil)
			ops = append(ops, o)
		}
		text, err := script.Print(api.Script{Config: c, Ops: ops})
		want(t, "P18.8", err, nil)
		for range 60 {
			b := []byte(text)
			at := d.below(len(b))
			switch d.below(3) {
			case 0:
				b[at] = "0123456789 \t\n#@-abcmx\xff"[d.below(22)]
			case 1:
				b = b[:at]
			case 2:
				b = slices.Delete(b, at, min(len(b), at+1+d.below(4)))
			}
			refusal := fmt.Sprint(parsed(string(b)))
			got, err := mutator.Play(string(b))
			again, other := mutator.Play(string(b))
			want(t, fmt.Sprintf("P20.9: Play(%q)", b), fmt.Sprint(err), refusal)
			want(t, fmt.Sprintf("P20.9: Play(%q) again", b), fmt.Sprint(again, other), fmt.Sprint(got, err))
		}
	}
}

// parsed tells how a text is refused: by Parse, or for its configuration.
func parsed(text string) error {
	s, err := script.Parse(text)
	if err == nil && !valid(s.Config) {
		return &api.Misread{Line: 1, Err: api.ErrArenaConfig}
	}
	return err
}
