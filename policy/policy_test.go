package policy

import (
	"testing"

	"palisade/api"
)

func TestApplies(t *testing.T) {
	for _, x := range []struct {
		name   string
		policy api.Policy
		way    int
		want   bool
	}{
		{"its way", api.Policy{Space: 2, Ways: api.Out}, api.Out, true},
		{"the other way", api.Policy{Space: 2, Ways: api.Out}, api.In, false},
		{"its way In", api.Policy{Space: 2, Ways: api.In}, api.In, true},
		{"not by Out", api.Policy{Space: 2, Ways: api.In}, api.Out, false},
		{"both ways, Out", api.Policy{Space: 2, Ways: 3}, api.Out, true},
		{"both ways, In", api.Policy{Space: 2, Ways: 3}, api.In, true},
		{"another space", api.Policy{Space: 1, Ways: 3}, api.In, false},
		{"needs what the pod has", api.Policy{Space: 2, Ways: 3, Selector: api.Selector{Need: 5}}, api.In, true},
		{"needs more", api.Policy{Space: 2, Ways: 3, Selector: api.Selector{Need: 7}}, api.In, false},
		{"bans what the pod has", api.Policy{Space: 2, Ways: 3, Selector: api.Selector{Ban: 6}}, api.In, false},
		{"bans what it has not", api.Policy{Space: 2, Ways: 3, Selector: api.Selector{Ban: 2}}, api.In, true},
	} {
		if got := Applies(x.policy, x.way, api.Pod{Space: 2, Labels: 5}); got != x.want {
			t.Errorf("%s: %v", x.name, got)
		}
	}
}

func TestMostRules(t *testing.T) {
	for _, x := range []struct{ ways, outs, ins int }{
		{-1, 0, 0}, {0, 0, 0}, {api.Out, 2, 0}, {api.In, 0, 2}, {api.Out | api.In, 2, 2}, {4, 0, 0},
	} {
		if outs, ins := mostRules(x.ways); outs != x.outs || ins != x.ins {
			t.Errorf("mostRules(%d) = %d, %d", x.ways, outs, ins)
		}
	}
}

// A rule asks of the far end, by its way's own list.
func TestLetsGo(t *testing.T) {
	only := func(ip int) []api.Rule {
		return []api.Rule{{Peers: []api.Peer{{Kind: api.Blocks, Block: api.Block{Base: ip, Bits: 32}}}}}
	}
	p := api.Policy{Ways: 3, Outs: only(7), Ins: only(8)}
	for _, x := range []struct {
		way, src, dst int
		want          bool
	}{
		{api.Out, 1, 7, true}, {api.Out, 7, 1, false}, {api.Out, 1, 8, false},
		{api.In, 8, 1, true}, {api.In, 1, 8, false}, {api.In, 7, 1, false},
	} {
		if got := LetsGo(p, x.way, nil, api.Packet{Src: x.src, Dst: x.dst, Proto: api.Tcp}); got != x.want {
			t.Errorf("way %d, from %d to %d: %v", x.way, x.src, x.dst, got)
		}
	}
}
