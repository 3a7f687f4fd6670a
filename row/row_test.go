package row

import (
	"slices"
	"testing"

	"palisade/api"
)

var near, far = api.Block{Base: 8, Bits: 32}, api.Block{Base: 16, Bits: 28}

func TestOf(t *testing.T) {
	port := api.Port{Proto: api.Udp, From: 3, To: 4}
	if r := Of(api.Out, near, far, port, true); r != (api.Row{Src: near, Dst: far, Proto: api.Udp, From: 3, To: 4, Allow: true}) {
		t.Errorf("Out: %+v", r)
	}
	if r := Of(api.In, near, far, port, false); r != (api.Row{Src: far, Dst: near, Proto: api.Udp, From: 3, To: 4}) {
		t.Errorf("In: %+v", r)
	}
}

func TestFits(t *testing.T) {
	r := api.Row{Src: near, Dst: far, Proto: api.Tcp, From: 3, To: 4}
	for _, x := range []struct {
		p    api.Packet
		want bool
	}{
		{api.Packet{Src: 8, Dst: 16, Proto: api.Tcp, Port: 3}, true},
		{api.Packet{Src: 8, Dst: 31, Proto: api.Tcp, Port: 4}, true},
		{api.Packet{Src: 9, Dst: 16, Proto: api.Tcp, Port: 3}, false},
		{api.Packet{Src: 8, Dst: 32, Proto: api.Tcp, Port: 3}, false},
		{api.Packet{Src: 16, Dst: 8, Proto: api.Tcp, Port: 3}, false},
		{api.Packet{Src: 8, Dst: 16, Proto: api.Udp, Port: 3}, false},
		{api.Packet{Src: 8, Dst: 16, Proto: api.Tcp, Port: 2}, false},
		{api.Packet{Src: 8, Dst: 16, Proto: api.Tcp, Port: 5}, false},
	} {
		for _, allow := range []bool{true, false} {
			r.Allow = allow
			if got := Fits(r, x.p); got != x.want {
				t.Errorf("%+v fits %+v: %v", r, x.p, got)
			}
		}
	}
	r.Proto = 0
	if !Fits(r, api.Packet{Src: 8, Dst: 16, Proto: api.Udp, Port: 3}) {
		t.Errorf("Proto 0 does not fit Udp")
	}
}

// Rows that differ in one number only are all kept.
func TestOnce(t *testing.T) {
	base := api.Row{Src: near, Dst: far, Proto: api.Tcp, From: 3, To: 5, Allow: true}
	rows := []api.Row{base}
	for _, change := range []func(r *api.Row){
		func(r *api.Row) { r.Src.Base++ }, func(r *api.Row) { r.Src.Bits-- },
		func(r *api.Row) { r.Dst.Base += 16 }, func(r *api.Row) { r.Dst.Bits++ },
		func(r *api.Row) { r.Proto = 0 }, func(r *api.Row) { r.From = 4 }, func(r *api.Row) { r.To = 4 },
	} {
		r := base
		change(&r)
		rows = append(rows, r, base, r)
	}
	was := slices.Clone(rows)
	got := Once(rows)
	if !slices.Equal(rows, was) {
		t.Errorf("the rows handed in were written into")
	}
	if len(got) != 8 {
		t.Errorf("%d rows are kept: %+v", len(got), got)
	}
	for _, r := range rows {
		if !slices.Contains(got, r) {
			t.Errorf("%+v is lost", r)
		}
	}
	slices.Reverse(rows)
	if !slices.Equal(Once(rows), got) {
		t.Errorf("the order of the rows handed in is to be seen")
	}
	if len(Once(nil)) != 0 {
		t.Errorf("rows out of nothing")
	}
}
