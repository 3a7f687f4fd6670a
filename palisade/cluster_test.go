package palisade

import "palisade/api"

func ip(a, b, c, d int) int { return a<<24 | b<<16 | c<<8 | d }

// full gives a right cluster in which every list is as long as it may be.
func full() api.Cluster {
	var c api.Cluster
	for i := range api.MaxPods {
		c.Pods = append(c.Pods, api.Pod{Host: i % api.Hosts, Ip: ip(10, 0, 0, i), Space: i % api.Spaces, Labels: 1 << i})
	}
	for i := range api.MaxPolicies {
		c.Policies = append(c.Policies, api.Policy{Space: i, Selector: api.Selector{Need: 1, Ban: 2}, Ways: api.Out | api.In,
			Outs: []api.Rule{fullRule(), fullRule()}, Ins: []api.Rule{fullRule(), fullRule()}})
	}
	return c
}

func fullRule() api.Rule {
	return api.Rule{
		Peers: []api.Peer{
			{Kind: api.Pods, Selector: api.Selector{Need: 4, Ban: 8}, Spaces: 5},
			{Kind: api.Blocks, Block: api.Block{Base: ip(10, 0, 0, 0), Bits: 8}, Excepts: []api.Block{{Base: ip(10, 1, 0, 0), Bits: 16}, {Base: ip(10, 1, 2, 0), Bits: 24}}},
		},
		Ports: []api.Port{{Proto: api.Tcp, From: 80, To: 90}, {Proto: 0, From: 0, To: 65535}},
	}
}

// web gives the cluster of the document's first example.
func web() api.Cluster {
	return api.Cluster{
		Pods: []api.Pod{
			{Host: 0, Ip: ip(10, 0, 0, 1), Space: 0, Labels: 1},
			{Host: 1, Ip: ip(10, 0, 0, 2), Space: 0, Labels: 2},
			{Host: 1, Ip: ip(10, 0, 0, 3), Space: 1, Labels: 1},
		},
		Policies: []api.Policy{{Space: 0, Selector: api.Selector{Need: 2}, Ways: api.In, Ins: []api.Rule{{
			Peers: []api.Peer{{Kind: api.Pods, Selector: api.Selector{Need: 1}}},
			Ports: []api.Port{{Proto: api.Tcp, From: 80, To: 90}},
		}}}},
	}
}
