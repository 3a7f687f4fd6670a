package block

import (
	"math"
	"testing"

	"palisade/api"
)

const last = 1<<32 - 1

func TestRight(t *testing.T) {
	for _, x := range []struct {
		b    api.Block
		want bool
	}{
		{api.Block{}, true},
		{api.Block{Bits: 32}, true},
		{api.Block{Base: last, Bits: 32}, true},
		{api.Block{Base: last, Bits: 31}, false},
		{api.Block{Base: last - 1, Bits: 31}, true},
		{api.Block{Base: 1 << 31, Bits: 1}, true},
		{api.Block{Base: 1 << 31, Bits: 0}, false},
		{api.Block{Base: 1 << 30, Bits: 1}, false},
		{api.Block{Base: 10 << 24, Bits: 8}, true},
		{api.Block{Base: 10 << 24, Bits: 7}, true},
		{api.Block{Base: 10 << 24, Bits: 6}, false},
		{api.Block{Bits: -1}, false},
		{api.Block{Bits: 33}, false},
		{api.Block{Bits: math.MinInt}, false},
		{api.Block{Bits: math.MaxInt}, false},
		{api.Block{Base: -1, Bits: 32}, false},
		{api.Block{Base: 1 << 32, Bits: 32}, false},
		{api.Block{Base: 1 << 32, Bits: 0}, false},
		{api.Block{Base: math.MinInt, Bits: 0}, false},
		{api.Block{Base: math.MaxInt, Bits: 32}, false},
	} {
		if got := Right(x.b); got != x.want {
			t.Errorf("Right(%+v) = %v", x.b, got)
		}
	}
}

// A block of each size has its first and last address and neither neighbour.
func TestHas(t *testing.T) {
	for bits := 0; bits <= 32; bits++ {
		size := 1 << (32 - bits)
		for _, base := range []int{0, (1 << 31) / size * size, (10 << 24) / size * size, (last) / size * size} {
			b := api.Block{Base: base, Bits: bits}
			for _, x := range []struct {
				ip   int
				want bool
			}{{base, true}, {base + size - 1, true}, {base + size/2, true}, {base - 1, false}, {base + size, false}} {
				if x.ip < 0 || x.ip > last {
					continue
				}
				if got := Has(b, x.ip); got != x.want {
					t.Errorf("Has(%+v, %d) = %v", b, x.ip, got)
				}
			}
		}
	}
}
