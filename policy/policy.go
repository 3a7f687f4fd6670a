// Package policy tells when a policy is right, to which pods it applies, and what its rules let go.
package policy

import (
	"slices"

	"palisade/api"
	"palisade/block"
	"palisade/bound"
	"palisade/list"
	"palisade/packet"
	"palisade/peer"
	"palisade/pod"
)

const both = api.Out | api.In

func Right(p api.Policy) bool {
	outs, ins := mostRules(p.Ways)
	return bound.Space(p.Space) && pod.SelectorRight(p.Selector) && bound.Within(p.Ways, api.Out, both) &&
		list.FewAll(p.Outs, outs, ruleRight) && list.FewAll(p.Ins, ins, ruleRight)
}

// mostRules leaves no room for rules of a way that the policy has not.
func mostRules(ways int) (outs, ins int) {
	switch ways {
	case both:
		ins = api.MaxEach
		fallthrough // it has all that Out alone has, and more
	case api.Out:
		outs = api.MaxEach
	case api.In:
		ins = api.MaxEach
	}
	return outs, ins
}

func ruleRight(r api.Rule) bool {
	return list.FewAll(r.Peers, api.MaxEach, peer.Right) && list.FewAll(r.Ports, api.MaxEach, packet.PortRight)
}

// Copy shares no memory with the policy, nor do its rules and peers.
func Copy(p api.Policy) api.Policy {
	p.Outs, p.Ins = list.Map(p.Outs, copyRule), list.Map(p.Ins, copyRule)
	return p
}

func copyRule(r api.Rule) api.Rule {
	return api.Rule{Peers: list.Map(r.Peers, peer.Copy), Ports: slices.Clone(r.Ports)}
}

func Applies(p api.Policy, way int, to api.Pod) bool {
	return p.Ways&way != 0 && p.Space == to.Space && pod.Selects(p.Selector, to)
}

// Applying gives none for a pod that nothing holds back.
func Applying(l []api.Policy, way int, to api.Pod) []api.Policy {
	return list.Keep(l, func(p api.Policy) bool { return Applies(p, way, to) })
}

// LetsGo asks the rules only; whether the policy applies is asked ahead.
func LetsGo(p api.Policy, way int, pods []api.Pod, k api.Packet) bool {
	_, far := packet.Ends(k, way)
	in := peer.Scope{Space: p.Space, Pods: pods}
	return list.Any(rules(p, way), func(r api.Rule) bool { return ruleFits(r, in, far, k) })
}

func rules(p api.Policy, way int) []api.Rule {
	if way == api.Out {
		return p.Outs
	}
	return p.Ins
}

func ruleFits(r api.Rule, in peer.Scope, far int, k api.Packet) bool {
	return list.EmptyOrAny(r.Peers, func(p api.Peer) bool { return peer.Has(p, far, in) }) &&
		list.EmptyOrAny(r.Ports, func(p api.Port) bool { return packet.PortFits(p, k) })
}

// Gap lets go what has its other end in a block, by a port.
type Gap struct {
	Far  api.Block
	Port api.Port
}

// Gaps tells what LetsGo tells, for all packets at once.
func Gaps(p api.Policy, way int, pods []api.Pod) []Gap {
	in := peer.Scope{Space: p.Space, Pods: pods}
	var l []Gap
	for _, r := range rules(p, way) {
		for _, far := range fars(r, in) {
			for _, port := range ports(r) {
				l = append(l, Gap{far, port})
			}
		}
	}
	return l
}

// fars asks whether there are peers, not whether they have addresses: peers that have none let nothing go.
func fars(r api.Rule, in peer.Scope) []api.Block {
	if len(r.Peers) == 0 {
		return []api.Block{block.All()}
	}
	var l []api.Block
	for _, p := range r.Peers {
		l = append(l, peer.Blocks(p, in)...)
	}
	return l
}

func ports(r api.Rule) []api.Port {
	if len(r.Ports) == 0 {
		return []api.Port{packet.EveryPort()}
	}
	return r.Ports
}
