// Package peer has the two kinds of peers behind one interface.
package peer

import (
	"slices"

	"palisade/api"
	"palisade/block"
	"palisade/bound"
	"palisade/list"
	"palisade/pod"
)

// Scope is where a peer's policy stands: the same peer has other addresses elsewhere.
type Scope struct {
	Space int
	Pods  []api.Pod
}

// kind is what the program asks of a peer, whichever of the two it is.
type kind interface {
	inBounds() bool
	restEmpty() bool
	has(ip int, in Scope) bool
	blocks(in Scope) []api.Block
}

// kindOf answers false, if there is no such kind.
func kindOf(p api.Peer) (kind, bool) {
	switch p.Kind {
	case api.Pods:
		return ofPods{common{p}}, true
	case api.Blocks:
		return ofBlocks{common{p}}, true
	}
	return nil, false
}

func Right(p api.Peer) bool {
	k, ok := kindOf(p)
	return ok && k.inBounds() && k.restEmpty()
}

// Has asks a right peer only.
func Has(p api.Peer, ip int, in Scope) bool {
	k, ok := kindOf(p)
	return ok && k.has(ip, in)
}

// Blocks gives the addresses that a right peer has, as blocks.
func Blocks(p api.Peer, in Scope) []api.Block {
	k, ok := kindOf(p)
	if !ok {
		return nil
	}
	return k.blocks(in)
}

// Copy shares no memory with the peer.
func Copy(p api.Peer) api.Peer {
	p.Excepts = slices.Clone(p.Excepts)
	return p
}

type common struct{ api.Peer }

// inBounds holds every field against its bounds, needed or not: what is 0 or empty lies within them.
func (c common) inBounds() bool {
	return pod.SelectorRight(c.Selector) && bound.Within(c.Spaces, 0, bound.MaxSpaces) &&
		block.Right(c.Block) && list.FewAll(c.Excepts, api.MaxEach, block.Right)
}

type ofPods struct{ common }

func (o ofPods) restEmpty() bool { return o.Block == (api.Block{}) && len(o.Excepts) == 0 }

func (o ofPods) has(ip int, in Scope) bool {
	return pod.Taken(o.chosen(in), ip)
}

func (o ofPods) blocks(in Scope) []api.Block {
	return list.Map(o.chosen(in), func(p api.Pod) api.Block { return block.One(p.Ip) })
}

func (o ofPods) chosen(in Scope) []api.Pod {
	spaces := o.spacesFrom(in.Space)
	return list.Keep(in.Pods, func(p api.Pod) bool {
		return spaces&(1<<p.Space) != 0 && pod.Selects(o.Selector, p)
	})
}

func (o ofPods) spacesFrom(own int) int {
	if o.Spaces == 0 {
		return 1 << own
	}
	return o.Spaces
}

type ofBlocks struct{ common }

func (o ofBlocks) restEmpty() bool { return o.Selector == (api.Selector{}) && o.Spaces == 0 }

func (o ofBlocks) has(ip int, _ Scope) bool {
	hasIt := func(b api.Block) bool { return block.Has(b, ip) }
	return hasIt(o.Block) && !list.Any(o.Excepts, hasIt)
}

func (o ofBlocks) blocks(Scope) []api.Block { return block.Without(o.Block, o.Excepts) }
