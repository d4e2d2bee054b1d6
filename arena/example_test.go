package arena_test

import (
	"testing"

	"midden/api"
)

// TestExamples: the chapter's two, one behind the other.
func TestExamples(t *testing.T) {
	a := made(t, small())
	for i, want := range [][2]int{{1, 65}, {65, 129}, {129, 193}, {193, 293}} {
		if first, behind := a.Bounds(all[i]); first != want[0] || behind != want[1] {
			t.Errorf("P3.4: Bounds(%d) = %d, %d", all[i], first, behind)
		}
	}
	if at := put(t, a, api.SpaceEden, api.Head{Serial: 7, Kind: api.Plain, Ptrs: 1, Raws: 2}); at != 1 || a.Top(api.SpaceEden) != 6 {
		t.Errorf("P3.8: Put: %d, top %d", at, a.Top(api.SpaceEden))
	}
	if fill(t, a, api.SpaceEden, 3); a.Top(api.SpaceEden) != 9 {
		t.Errorf("P3.8: Fill: top %d", a.Top(api.SpaceEden))
	}
	if at := put(t, a, api.SpaceEden, api.Head{Kind: api.Plain}); at != 9 {
		t.Errorf("P3.8: Put: %d", at)
	}
	if l := walk(a, api.SpaceEden); len(l) != 2 || l[0].at != 1 || l[1].at != 9 {
		t.Errorf("P3.10: Objects: %v", l)
	}
	if !a.SetPtr(1, 0, 9) || a.SetPtr(1, 0, 293) || a.SetPtr(1, 1, 9) {
		t.Errorf("P3.9: SetPtr")
	}
	if w, ok := a.Raw(1, 1); w != 0 || !ok {
		t.Errorf("P3.9: Raw: %d, %v", w, ok)
	}
	if !a.Young(1) || !a.Young(70) || a.Young(140) {
		t.Errorf("P3.6: Young")
	}
	if a.Swap(); !a.Young(1) || a.Young(70) || !a.Young(140) {
		t.Errorf("P3.6: Young behind Swap")
	}
	if at, ok := a.Take(api.SpaceEden, 55); at != 0 || ok || a.Free(api.SpaceEden) != 54 {
		t.Errorf("P3.5: Take: %d, %v", at, ok)
	}
	a.SetWord(6, 0)
	if l := walk(a, api.SpaceEden); len(l) != 1 || l[0].at != 1 {
		t.Errorf("P3.10: Objects: %v", l)
	}
	if at, e := a.Check(); at != 6 || e != api.ErrArenaWalk {
		t.Errorf("P3.11: Check: %d, %d", at, e)
	}
	if !a.Cut(api.SpaceEden, 6) {
		t.Errorf("P3.5: Cut")
	}
	if at, e := a.Check(); at != 0 || e != api.OK {
		t.Errorf("P3.11: Check: %d, %d", at, e)
	}
}
