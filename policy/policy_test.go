package policy

import (
	"reflect"
	"slices"
	"testing"

	"palisade/api"
)

func TestApplies(t *testing.T) {
	for _, x := range []struct {
		name   string
		policy api.Policy
		way    int
		want   bool
	}{
		{"its way", api.Policy{Space: 2, Ways: api.Out}, api.Out, true},
		{"the other way", api.Policy{Space: 2, Ways: api.Out}, api.In, false},
		{"its way In", api.Policy{Space: 2, Ways: api.In}, api.In, true},
		{"not by Out", api.Policy{Space: 2, Ways: api.In}, api.Out, false},
		{"both ways, Out", api.Policy{Space: 2, Ways: 3}, api.Out, true},
		{"both ways, In", api.Policy{Space: 2, Ways: 3}, api.In, true},
		{"another space", api.Policy{Space: 1, Ways: 3}, api.In, false},
		{"needs what the pod has", api.Policy{Space: 2, Ways: 3, Selector: api.Selector{Need: 5}}, api.In, true},
		{"needs more", api.Policy{Space: 2, Ways: 3, Selector: api.Selector{Need: 7}}, api.In, false},
		{"bans what the pod has", api.Policy{Space: 2, Ways: 3, Selector: api.Selector{Ban: 6}}, api.In, false},
		{"bans what it has not", api.Policy{Space: 2, Ways: 3, Selector: api.Selector{Ban: 2}}, api.In, true},
	} {
		if got := Applies(x.policy, x.way, api.Pod{Space: 2, Labels: 5}); got != x.want {
			t.Errorf("%s: %v", x.name, got)
		}
	}
}

func TestMostRules(t *testing.T) {
	for _, x := range []struct{ ways, outs, ins int }{
		{-1, 0, 0}, {0, 0, 0}, {api.Out, 2, 0}, {api.In, 0, 2}, {api.Out | api.In, 2, 2}, {4, 0, 0},
	} {
		if outs, ins := mostRules(x.ways); outs != x.outs || ins != x.ins {
			t.Errorf("mostRules(%d) = %d, %d", x.ways, outs, ins)
		}
	}
}

// A rule asks of the far end, by its way's own list.
func TestLetsGo(t *testing.T) {
	only := func(ip int) []api.Rule {
		return []api.Rule{{Peers: []api.Peer{{Kind: api.Blocks, Block: api.Block{Base: ip, Bits: 32}}}}}
	}
	p := api.Policy{Ways: 3, Outs: only(7), Ins: only(8)}
	for _, x := range []struct {
		way, src, dst int
		want          bool
	}{
		{api.Out, 1, 7, true}, {api.Out, 7, 1, false}, {api.Out, 1, 8, false},
		{api.In, 8, 1, true}, {api.In, 1, 8, false}, {api.In, 7, 1, false},
	} {
		if got := LetsGo(p, x.way, nil, api.Packet{Src: x.src, Dst: x.dst, Proto: api.Tcp}); got != x.want {
			t.Errorf("way %d, from %d to %d: %v", x.way, x.src, x.dst, got)
		}
	}
}

func TestApplying(t *testing.T) {
	l := []api.Policy{{Space: 1, Ways: 3}, {Ways: api.Out}, {Ways: api.In}, {Ways: 3, Selector: api.Selector{Need: 1}}, {Ways: 3}}
	for way, want := range map[int][]int{api.Out: {1, 4}, api.In: {2, 4}} {
		got := Applying(l, way, api.Pod{})
		if len(got) != len(want) {
			t.Fatalf("way %d: %+v", way, got)
		}
		for i, n := range want {
			if got[i].Ways != l[n].Ways || got[i].Space != 0 || got[i].Selector.Need != 0 {
				t.Errorf("way %d: %+v", way, got)
			}
		}
	}
	if got := Applying(l, api.Out, api.Pod{Space: 2}); len(got) != 0 {
		t.Errorf("a pod of another space: %+v", got)
	}
}

func TestGaps(t *testing.T) {
	web, dns := api.Port{Proto: api.Tcp, From: 80, To: 90}, api.Port{Proto: api.Udp, From: 53, To: 53}
	every := api.Port{From: 0, To: 65535}
	pods := []api.Pod{{Ip: 5, Space: 2, Labels: 1}, {Ip: 6, Space: 2}, {Ip: 7}}
	mine := api.Peer{Kind: api.Pods}
	nobody := api.Peer{Kind: api.Pods, Selector: api.Selector{Need: 128}}
	half := api.Peer{Kind: api.Blocks, Excepts: []api.Block{{Base: 1 << 31, Bits: 1}}}
	five, six, low := api.Block{Base: 5, Bits: 32}, api.Block{Base: 6, Bits: 32}, api.Block{Bits: 1}
	for _, x := range []struct {
		name  string
		rules []api.Rule
		want  []Gap
	}{
		{"no rules", nil, nil},
		{"a rule of nothing", []api.Rule{{}}, []Gap{{api.Block{}, every}}},
		{"ports", []api.Rule{{Ports: []api.Port{web, dns}}}, []Gap{{api.Block{}, web}, {api.Block{}, dns}}},
		{"peers", []api.Rule{{Peers: []api.Peer{mine, half}}}, []Gap{{five, every}, {six, every}, {low, every}}},
		{"peers and ports", []api.Rule{{Peers: []api.Peer{mine}, Ports: []api.Port{web, dns}}}, []Gap{{five, web}, {five, dns}, {six, web}, {six, dns}}},
		{"peers that have nothing", []api.Rule{{Peers: []api.Peer{nobody}, Ports: []api.Port{web}}}, nil},
		{"two rules", []api.Rule{{Ports: []api.Port{web}}, {Peers: []api.Peer{half}}}, []Gap{{api.Block{}, web}, {low, every}}},
	} {
		out := api.Policy{Space: 2, Ways: 3, Outs: x.rules}
		in := api.Policy{Space: 2, Ways: 3, Ins: x.rules}
		if got := Gaps(out, api.Out, pods); !slices.Equal(got, x.want) {
			t.Errorf("%s: Out: %v, want %v", x.name, got, x.want)
		}
		if got := Gaps(in, api.In, pods); !slices.Equal(got, x.want) {
			t.Errorf("%s: In: %v, want %v", x.name, got, x.want)
		}
		if len(Gaps(out, api.In, pods)) != 0 || len(Gaps(in, api.Out, pods)) != 0 {
			t.Errorf("%s: the other way's rules", x.name)
		}
	}
}

func TestCopySharesNothing(t *testing.T) {
	rules := func(n int) []api.Rule {
		return []api.Rule{
			{Peers: []api.Peer{{Kind: api.Pods, Spaces: n}, {Kind: api.Blocks, Excepts: []api.Block{{Bits: n}}}}, Ports: []api.Port{{To: n}, {To: n + 1}}},
			{Ports: []api.Port{{From: n, To: n}}},
		}
	}
	fresh := func() api.Policy {
		return api.Policy{Space: 2, Selector: api.Selector{Need: 1, Ban: 2}, Ways: 3, Outs: rules(1), Ins: rules(5)}
	}
	for name, write := range map[string]func(l []api.Rule){
		"rules":   func(l []api.Rule) { l[1] = api.Rule{} },
		"peers":   func(l []api.Rule) { l[0].Peers[0].Spaces = 9 },
		"excepts": func(l []api.Rule) { l[0].Peers[1].Excepts[0].Bits = 9 },
		"ports":   func(l []api.Rule) { l[0].Ports[1].To = 9 },
	} {
		p := fresh()
		was := Copy(p)
		write(p.Outs)
		write(p.Ins)
		if !reflect.DeepEqual(was, fresh()) {
			t.Errorf("%s: Copy gives %+v", name, was)
		}
	}
}
