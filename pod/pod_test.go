package pod

import (
	"testing"

	"palisade/api"
)

// By the words: every bit of Need, and no bit of Ban.
func TestSelects(t *testing.T) {
	bitwise := func(s api.Selector, labels int) bool {
		for bit := 1; bit < 256; bit *= 2 {
			if s.Need/bit%2 == 1 && labels/bit%2 == 0 || s.Ban/bit%2 == 1 && labels/bit%2 == 1 {
				return false
			}
		}
		return true
	}
	numbers := []int{0, 1, 2, 3, 4, 5, 7, 64, 128, 129, 192, 254, 255}
	for _, need := range numbers {
		for _, ban := range numbers {
			for labels := range 256 {
				s := api.Selector{Need: need, Ban: ban}
				if got, want := Selects(s, api.Pod{Labels: labels}), bitwise(s, labels); got != want {
					t.Fatalf("Selects(%+v, labels %d) = %v", s, labels, got)
				}
			}
		}
	}
}

func TestAt(t *testing.T) {
	pods := []api.Pod{{Ip: 5, Labels: 1}, {Ip: 0, Labels: 2}, {Ip: 9, Labels: 3}}
	for _, p := range pods {
		if got, found := At(pods, p.Ip); !found || got != p || !Taken(pods, p.Ip) {
			t.Errorf("At(%d) = %+v, %v", p.Ip, got, found)
		}
	}
	if got, found := At(pods, 1); found || got != (api.Pod{}) || Taken(pods, 1) {
		t.Errorf("At of nobody = %+v, %v", got, found)
	}
	if Taken(nil, 0) {
		t.Error("an address is taken where there are no pods")
	}
}
