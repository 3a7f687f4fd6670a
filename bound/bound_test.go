package bound

import (
	"math"
	"testing"
)

func TestBounds(t *testing.T) {
	for _, x := range []struct {
		name string
		in   func(int) bool
		high int
	}{
		{"Address", Address, 4294967295},
		{"Space", Space, 3},
		{"Labels", Labels, 255},
		{"Port", Port, 65535},
	} {
		for _, n := range []int{0, 1, x.high - 1, x.high} {
			if !x.in(n) {
				t.Errorf("%s(%d) = false", x.name, n)
			}
		}
		for _, n := range []int{math.MinInt, -1, x.high + 1, math.MaxInt} {
			if x.in(n) {
				t.Errorf("%s(%d) = true", x.name, n)
			}
		}
	}
	if MaxSpaces != 15 {
		t.Errorf("MaxSpaces = %d", MaxSpaces)
	}
}
