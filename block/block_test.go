package block

import (
	"math"
	"slices"
	"testing"

	"palisade/api"
)

const last = 1<<32 - 1

func TestRight(t *testing.T) {
	for _, x := range []struct {
		b    api.Block
		want bool
	}{
		{api.Block{}, true},
		{api.Block{Bits: 32}, true},
		{api.Block{Base: last, Bits: 32}, true},
		{api.Block{Base: last, Bits: 31}, false},
		{api.Block{Base: last - 1, Bits: 31}, true},
		{api.Block{Base: 1 << 31, Bits: 1}, true},
		{api.Block{Base: 1 << 31, Bits: 0}, false},
		{api.Block{Base: 1 << 30, Bits: 1}, false},
		{api.Block{Base: 10 << 24, Bits: 8}, true},
		{api.Block{Base: 10 << 24, Bits: 7}, true},
		{api.Block{Base: 10 << 24, Bits: 6}, false},
		{api.Block{Bits: -1}, false},
		{api.Block{Bits: 33}, false},
		{api.Block{Bits: math.MinInt}, false},
		{api.Block{Bits: math.MaxInt}, false},
		{api.Block{Base: -1, Bits: 32}, false},
		{api.Block{Base: 1 << 32, Bits: 32}, false},
		{api.Block{Base: 1 << 32, Bits: 0}, false},
		{api.Block{Base: math.MinInt, Bits: 0}, false},
		{api.Block{Base: math.MaxInt, Bits: 32}, false},
	} {
		if got := Right(x.b); got != x.want {
			t.Errorf("Right(%+v) = %v", x.b, got)
		}
	}
}

// A block of each size has its first and last address and neither neighbour.
func TestHas(t *testing.T) {
	for bits := 0; bits <= 32; bits++ {
		size := 1 << (32 - bits)
		for _, base := range []int{0, (1 << 31) / size * size, (10 << 24) / size * size, (last) / size * size} {
			b := api.Block{Base: base, Bits: bits}
			for _, x := range []struct {
				ip   int
				want bool
			}{{base, true}, {base + size - 1, true}, {base + size/2, true}, {base - 1, false}, {base + size, false}} {
				if x.ip < 0 || x.ip > last {
					continue
				}
				if got := Has(b, x.ip); got != x.want {
					t.Errorf("Has(%+v, %d) = %v", b, x.ip, got)
				}
			}
		}
	}
}

func TestAllAndOne(t *testing.T) {
	for _, ip := range []int{0, 1, 1 << 31, last} {
		if !Has(All(), ip) {
			t.Errorf("All has not %d", ip)
		}
		if b := One(ip); b != (api.Block{Base: ip, Bits: 32}) {
			t.Errorf("One(%d) = %+v", ip, b)
		}
	}
}

func TestWithin(t *testing.T) {
	for _, x := range []struct {
		inner, outer api.Block
		want         bool
	}{
		{api.Block{}, api.Block{}, true},
		{api.Block{Bits: 1}, api.Block{}, true},
		{api.Block{}, api.Block{Bits: 1}, false},
		{api.Block{Base: 1 << 31, Bits: 1}, api.Block{Bits: 1}, false},
		{api.Block{Base: last, Bits: 32}, api.Block{}, true},
		{api.Block{Base: last, Bits: 32}, api.Block{Base: last - 1, Bits: 31}, true},
		{api.Block{Base: last - 1, Bits: 31}, api.Block{Base: last, Bits: 32}, false},
		{api.Block{Base: last - 1, Bits: 31}, api.Block{Base: last - 1, Bits: 32}, false},
	} {
		if got := within(x.inner, x.outer); got != x.want {
			t.Errorf("within(%+v, %+v) = %v", x.inner, x.outer, got)
		}
	}
}

func TestWithout(t *testing.T) {
	b := func(base, bits int) api.Block { return api.Block{Base: base, Bits: bits} }
	for _, x := range []struct {
		name    string
		b       api.Block
		excepts []api.Block
		want    []api.Block
	}{
		{"no excepts", b(16, 28), nil, []api.Block{b(16, 28)}},
		{"itself", b(16, 28), []api.Block{b(16, 28)}, nil},
		{"a wider one", b(16, 28), []api.Block{b(0, 0)}, nil},
		{"one beside it", b(16, 28), []api.Block{b(32, 28)}, []api.Block{b(16, 28)}},
		{"its low half", b(16, 28), []api.Block{b(16, 29)}, []api.Block{b(24, 29)}},
		{"its high half", b(16, 28), []api.Block{b(24, 29)}, []api.Block{b(16, 29)}},
		{"both halves", b(16, 28), []api.Block{b(24, 29), b(16, 29)}, nil},
		{"within one another", b(16, 28), []api.Block{b(20, 30), b(20, 31)}, []api.Block{b(16, 30), b(24, 29)}},
		{"beside one another", b(16, 28), []api.Block{b(20, 31), b(22, 31)}, []api.Block{b(16, 30), b(24, 29)}},
		{"one address of two", b(last-1, 31), []api.Block{b(last, 32)}, []api.Block{b(last-1, 32)}},
		{"the one address", b(last, 32), []api.Block{b(last, 32)}, nil},
		{"half of all", b(0, 0), []api.Block{b(1<<31, 1)}, []api.Block{b(0, 1)}},
		{"all by halves", b(0, 0), []api.Block{b(0, 1), b(1<<31, 1)}, nil},
	} {
		if got := Without(x.b, x.excepts); !slices.Equal(got, x.want) {
			t.Errorf("%s: %v, want %v", x.name, got, x.want)
		}
	}
}

// An address is in one of the blocks that are left, or in none: never in two.
func TestWithoutOfAllSmallBlocks(t *testing.T) {
	var small []api.Block
	for bits := 29; bits <= 32; bits++ {
		for base := last - 7; base <= last; base += 1 << (32 - bits) {
			small = append(small, api.Block{Base: base, Bits: bits})
		}
	}
	for _, b := range small {
		for _, e := range small {
			for _, f := range small {
				left := Without(b, []api.Block{e, f})
				for ip := last - 7; ip <= last; ip++ {
					n := 0
					for _, l := range left {
						if !Right(l) {
							t.Fatalf("%+v is left of %+v without %+v and %+v", l, b, e, f)
						}
						if Has(l, ip) {
							n++
						}
					}
					want := 0
					if Has(b, ip) && !Has(e, ip) && !Has(f, ip) {
						want = 1
					}
					if n != want {
						t.Fatalf("%d is in %d blocks of %v, left of %+v without %+v and %+v", ip, n, left, b, e, f)
					}
				}
			}
		}
	}
}

// So many blocks at most are left, or a table might have too many rows.
func TestWithoutLeavesFewBlocks(t *testing.T) {
	for _, x := range []struct {
		excepts []int
		want    int
	}{
		{[]int{0}, 32}, {[]int{last}, 32}, {[]int{0, last}, 62}, {[]int{0, 1}, 31}, {[]int{0, 1 << 30}, 61}, {[]int{0, 1 << 31}, 62},
	} {
		var excepts []api.Block
		for _, ip := range x.excepts {
			excepts = append(excepts, One(ip))
		}
		if got := Without(All(), excepts); len(got) != x.want {
			t.Errorf("%d blocks are left without %v, want %d", len(got), x.excepts, x.want)
		}
	}
}
