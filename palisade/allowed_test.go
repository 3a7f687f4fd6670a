package palisade

import (
	"math"
	"testing"

	"palisade/api"
)

func expectAllowed(t *testing.T, name string, c api.Cluster, p api.Packet, want bool) {
	t.Helper()
	if a, e := Allowed(c, p); a != want || e != api.OK {
		t.Errorf("P4: %s: Allowed(%+v) = %v, %d, want %v, OK", name, p, a, e, want)
	}
}

func tcp(src, dst, port int) api.Packet {
	return api.Packet{Src: src, Dst: dst, Proto: api.Tcp, Port: port}
}

var one, two, three, stranger = ip(10, 0, 0, 1), ip(10, 0, 0, 2), ip(10, 0, 0, 3), ip(10, 9, 9, 9)

func TestAllowedInTheExample(t *testing.T) {
	c := web()
	expectAllowed(t, "the least port", c, tcp(one, two, 80), true)
	expectAllowed(t, "the greatest port", c, tcp(one, two, 90), true)
	expectAllowed(t, "a port below", c, tcp(one, two, 79), false)
	expectAllowed(t, "a port above", c, tcp(one, two, 91), false)
	expectAllowed(t, "Udp", c, api.Packet{Src: one, Dst: two, Proto: api.Udp, Port: 80}, false)
	expectAllowed(t, "another space", c, tcp(three, two, 80), false)
	expectAllowed(t, "no pod", c, tcp(stranger, two, 80), false)
	expectAllowed(t, "the other direction", c, tcp(two, one, 80), true)
	expectAllowed(t, "to itself, held to In too", c, tcp(two, two, 80), false)
	expectAllowed(t, "to a pod of no policy", c, tcp(stranger, three, 80), true)
	expectAllowed(t, "between strangers", c, tcp(stranger, stranger+1, 80), true)
	c.Policies[0].Ins[0].Peers[0].Spaces = 3
	expectAllowed(t, "with Spaces 3", c, tcp(three, two, 80), true)
	expectAllowed(t, "with Spaces 3, the own space", c, tcp(one, two, 80), true)
	c.Policies[0].Ins[0].Peers[0].Spaces = 2
	expectAllowed(t, "the own space not among Spaces", c, tcp(one, two, 80), false)
}

func TestAllowedByBlocks(t *testing.T) {
	peer := api.Peer{Kind: api.Blocks, Block: api.Block{Base: ip(10, 0, 0, 0), Bits: 8},
		Excepts: []api.Block{{Base: ip(10, 1, 0, 0), Bits: 16}, {Base: ip(10, 1, 2, 0), Bits: 24}}}
	c := api.Cluster{Pods: []api.Pod{{Ip: one}}, Policies: []api.Policy{{Ways: api.In, Ins: []api.Rule{{Peers: []api.Peer{peer}}}}}}
	expectAllowed(t, "in the block", c, tcp(ip(10, 2, 0, 1), one, 1), true)
	expectAllowed(t, "its first address", c, tcp(ip(10, 0, 0, 0), one, 1), true)
	expectAllowed(t, "its last address", c, tcp(ip(10, 255, 255, 255), one, 1), true)
	expectAllowed(t, "in both excepts", c, tcp(ip(10, 1, 2, 3), one, 1), false)
	expectAllowed(t, "in one except", c, tcp(ip(10, 1, 3, 3), one, 1), false)
	expectAllowed(t, "outside", c, tcp(ip(11, 0, 0, 1), one, 1), false)
	second := api.Peer{Kind: api.Blocks, Block: api.Block{Base: ip(10, 1, 2, 0), Bits: 24}}
	c.Policies[0].Ins[0].Peers = []api.Peer{peer, second}
	expectAllowed(t, "excepted by one, had by the other", c, tcp(ip(10, 1, 2, 3), one, 1), true)
	expectAllowed(t, "excepted still", c, tcp(ip(10, 1, 3, 3), one, 1), false)
	c.Policies[0].Ins[0].Peers = []api.Peer{{Kind: api.Blocks}}
	expectAllowed(t, "a block of all, first", c, tcp(0, one, 1), true)
	expectAllowed(t, "a block of all, last", c, tcp(1<<32-1, one, 1), true)
	c.Policies[0].Ins[0].Peers[0].Excepts = []api.Block{{}}
	expectAllowed(t, "all but all", c, tcp(0, one, 1), false)
}

func TestAllowedByWays(t *testing.T) {
	c := api.Cluster{Pods: []api.Pod{{Ip: one}}, Policies: []api.Policy{{Ways: api.Out}}}
	expectAllowed(t, "Out without Outs", c, tcp(one, stranger, 1), false)
	expectAllowed(t, "Out without Outs, talked to", c, tcp(stranger, one, 1), true)
	c.Policies[0].Ways = api.In
	expectAllowed(t, "In without Ins", c, tcp(stranger, one, 1), false)
	expectAllowed(t, "In without Ins, talking", c, tcp(one, stranger, 1), true)
	c.Policies[0].Ways = api.Out | api.In
	expectAllowed(t, "both, talking", c, tcp(one, stranger, 1), false)
	expectAllowed(t, "both, talked to", c, tcp(stranger, one, 1), false)
	c.Policies[0].Outs = []api.Rule{{}}
	expectAllowed(t, "a rule of nothing fits all", c, tcp(one, stranger, 1), true)
	expectAllowed(t, "that way only", c, tcp(stranger, one, 1), false)
	expectAllowed(t, "to itself it goes out, not in", c, tcp(one, one, 1), false)
	c.Policies[0].Ins = []api.Rule{{}}
	expectAllowed(t, "to itself, both ways open", c, tcp(one, one, 1), true)
}

// Out at the one end and In at the other must both let it go.
func TestAllowedAtBothEnds(t *testing.T) {
	to := func(port int) []api.Rule { return []api.Rule{{Ports: []api.Port{{From: port, To: port + 1}}}} }
	c := api.Cluster{
		Pods:     []api.Pod{{Ip: one, Labels: 1}, {Ip: two, Labels: 2}},
		Policies: []api.Policy{{Selector: api.Selector{Need: 1}, Ways: api.Out, Outs: to(5)}, {Selector: api.Selector{Need: 2}, Ways: api.In, Ins: to(6)}},
	}
	for port, want := range map[int]bool{4: false, 5: false, 6: true, 7: false, 8: false} {
		expectAllowed(t, "both ends", c, tcp(one, two, port), want)
	}
}

// A second policy that applies opens more, and one that doesn't opens nothing.
func TestAllowedBySeveralPolicies(t *testing.T) {
	to := func(port int) []api.Rule { return []api.Rule{{Ports: []api.Port{{From: port, To: port}}}} }
	c := api.Cluster{
		Pods: []api.Pod{{Ip: one, Labels: 3}},
		Policies: []api.Policy{
			{Selector: api.Selector{Need: 1}, Ways: api.In, Ins: to(1)},
			{Selector: api.Selector{Need: 2}, Ways: api.In, Ins: to(2)},
			{Selector: api.Selector{Ban: 1}, Ways: api.In, Ins: to(3)},
			{Space: 1, Ways: api.In, Ins: to(4)},
		},
	}
	for port, want := range map[int]bool{1: true, 2: true, 3: false, 4: false} {
		expectAllowed(t, "several policies", c, tcp(stranger, one, port), want)
	}
}

func TestAllowedOfWrongPackets(t *testing.T) {
	right := tcp(one, two, 80)
	for name, x := range map[string]struct {
		of        func(p *api.Packet) *int
		low, high int
	}{
		"Src":   {func(p *api.Packet) *int { return &p.Src }, 0, 1<<32 - 1},
		"Dst":   {func(p *api.Packet) *int { return &p.Dst }, 0, 1<<32 - 1},
		"Proto": {func(p *api.Packet) *int { return &p.Proto }, 1, 2},
		"Port":  {func(p *api.Packet) *int { return &p.Port }, 0, 65535},
	} {
		for _, value := range []int{x.low - 1, x.high + 1, math.MinInt, math.MaxInt} {
			p := right
			*x.of(&p) = value
			if a, e := Allowed(web(), p); a || e != api.ErrPacket {
				t.Errorf("P4: %s %d: Allowed = %v, %d, want false, ErrPacket", name, value, a, e)
			}
			if a, e := Allowed(api.Cluster{}, p); a || e != api.ErrPacket {
				t.Errorf("P4: %s %d in an empty cluster: Allowed = %v, %d, want false, ErrPacket", name, value, a, e)
			}
		}
		for _, value := range []int{x.low, x.high} {
			p := right
			*x.of(&p) = value
			if _, e := Allowed(web(), p); e != api.OK {
				t.Errorf("P4: %s %d: error %d", name, value, e)
			}
		}
	}
}

func TestAllowedTellsTheClustersErrorFirst(t *testing.T) {
	wrong := api.Packet{Src: -1}
	for want, c := range map[api.Errno]api.Cluster{
		api.ErrMany:   {Pods: make([]api.Pod, 9)},
		api.ErrPod:    {Pods: make([]api.Pod, 2), Policies: make([]api.Policy, 1)},
		api.ErrPolicy: {Policies: make([]api.Policy, 1)},
	} {
		if a, e := Allowed(c, wrong); a || e != want {
			t.Errorf("P4: Allowed = %v, %d, want false, %d", a, e, want)
		}
	}
}
