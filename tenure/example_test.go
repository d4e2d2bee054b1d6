package tenure_test

import (
	"testing"

	"midden/api"
	"midden/tenure"
)

func TestExampleOne(t *testing.T) {
	x := made(t, 64, 50, 4)
	want(t, "P7.1: Threshold", x.Threshold(), 4)
	want(t, "P7.2: Old(3), Old(4)", []bool{x.Old(3), x.Old(4)}, []bool{false, true})
	turn(t, x, [16]int{1: 20, 2: 10, 3: 5}, 3)
	want(t, "P7.2: Old(3), Old(2)", []bool{x.Old(3), x.Old(2)}, []bool{true, false})
	turn(t, x, [16]int{1: 33}, 1)
	want(t, "P7.2: Old(1), Old(0)", []bool{x.Old(1), x.Old(0)}, []bool{true, false})
	turn(t, x, [16]int{4: 65536}, 4)
	history(t, x, 4, 3, 1, 4)
}

func TestExampleTwo(t *testing.T) {
	x := made(t, 1, 1, 15)
	turn(t, x, [16]int{}, 15)
	turn(t, x, [16]int{2: 1}, 2)
	refused(t, x, [16]int{0: -1})
	for _, c := range [][3]int{{0, 1, 1}, {64, 101, 1}, {64, 1, 16}} {
		if x, e := tenure.New(c[0], c[1], c[2]); x != nil || e != api.ErrTenureSize {
			t.Errorf("P7.1: New(%v) = %v, %d, want nil, %d", c, x, e, api.ErrTenureSize)
		}
	}
}
