// Package policy tells when a policy is right, to which pods it applies, and what its rules let go.
package policy

import (
	"palisade/api"
	"palisade/bound"
	"palisade/list"
	"palisade/packet"
	"palisade/peer"
	"palisade/pod"
)

const both = api.Out | api.In

func Right(p api.Policy) bool {
	outs, ins := mostRules(p.Ways)
	return bound.Space(p.Space) && pod.SelectorRight(p.Selector) && bound.Within(p.Ways, api.Out, both) &&
		list.FewAll(p.Outs, outs, ruleRight) && list.FewAll(p.Ins, ins, ruleRight)
}

// mostRules leaves no room for rules of a way that the policy has not.
func mostRules(ways int) (outs, ins int) {
	switch ways {
	case both:
		ins = api.MaxEach
		fallthrough // it has all that Out alone has, and more
	case api.Out:
		outs = api.MaxEach
	case api.In:
		ins = api.MaxEach
	}
	return outs, ins
}

func ruleRight(r api.Rule) bool {
	return list.FewAll(r.Peers, api.MaxEach, peer.Right) && list.FewAll(r.Ports, api.MaxEach, packet.PortRight)
}

func Applies(p api.Policy, way int, to api.Pod) bool {
	return p.Ways&way != 0 && p.Space == to.Space && pod.Selects(p.Selector, to)
}

// LetsGo asks the rules only; whether the policy applies is asked ahead.
func LetsGo(p api.Policy, way int, pods []api.Pod, k api.Packet) bool {
	_, far := packet.Ends(k, way)
	in := peer.Scope{Space: p.Space, Pods: pods}
	return list.Any(rules(p, way), func(r api.Rule) bool { return ruleFits(r, in, far, k) })
}

func rules(p api.Policy, way int) []api.Rule {
	if way == api.Out {
		return p.Outs
	}
	return p.Ins
}

func ruleFits(r api.Rule, in peer.Scope, far int, k api.Packet) bool {
	return list.EmptyOrAny(r.Peers, func(p api.Peer) bool { return peer.Has(p, far, in) }) &&
		list.EmptyOrAny(r.Ports, func(p api.Port) bool { return packet.PortFits(p, k) })
}
