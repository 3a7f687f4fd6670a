package list

import (
	"slices"
	"strconv"
	"testing"
)

func even(n int) bool { return n%2 == 0 }

func TestLists(t *testing.T) {
	for _, x := range []struct {
		l                    []int
		all, any, emptyOrAny bool
	}{
		{nil, true, false, true},
		{[]int{}, true, false, true},
		{[]int{1}, false, false, false},
		{[]int{2}, true, true, true},
		{[]int{2, 1}, false, true, true},
		{[]int{1, 2}, false, true, true},
		{[]int{2, 4}, true, true, true},
		{[]int{1, 3}, false, false, false},
	} {
		if got := All(x.l, even); got != x.all {
			t.Errorf("All(%v) = %v", x.l, got)
		}
		if got := Any(x.l, even); got != x.any {
			t.Errorf("Any(%v) = %v", x.l, got)
		}
		if got := EmptyOrAny(x.l, even); got != x.emptyOrAny {
			t.Errorf("EmptyOrAny(%v) = %v", x.l, got)
		}
	}
}

func TestFewAll(t *testing.T) {
	for _, x := range []struct {
		l    []string
		most int
		want bool
	}{
		{nil, 0, true},
		{[]string{"a"}, 0, false},
		{[]string{"a", "b"}, 2, true},
		{[]string{"a", ""}, 2, false},
		{[]string{"a", "b", "c"}, 2, false},
	} {
		if got := FewAll(x.l, x.most, func(s string) bool { return s != "" }); got != x.want {
			t.Errorf("FewAll(%q, %d) = %v", x.l, x.most, got)
		}
	}
}

func TestKeep(t *testing.T) {
	l := []int{1, 2, 3, 4, 5, 6}
	kept := Keep(l, even)
	if !slices.Equal(kept, []int{2, 4, 6}) {
		t.Errorf("Keep gives %v", kept)
	}
	clear(kept[:cap(kept)])
	if !slices.Equal(l, []int{1, 2, 3, 4, 5, 6}) {
		t.Errorf("what Keep gives stands in the list that was handed in: %v", l)
	}
	if none := Keep(nil, even); len(none) != 0 {
		t.Errorf("Keep of nothing gives %v", none)
	}
}

func TestMap(t *testing.T) {
	l := []int{1, 2, 3}
	if made := Map(l, strconv.Itoa); !slices.Equal(made, []string{"1", "2", "3"}) {
		t.Errorf("Map gives %q", made)
	}
	same := Map(l, func(n int) int { return n })
	clear(same[:cap(same)])
	if !slices.Equal(l, []int{1, 2, 3}) {
		t.Errorf("what Map gives stands in the list that was handed in: %v", l)
	}
	if none := Map(nil, even); len(none) != 0 {
		t.Errorf("Map of nothing gives %v", none)
	}
}
