// Package block tells which addresses a block has, and by which blocks what is left of one is told.
package block

import (
	"palisade/api"
	"palisade/bound"
	"palisade/list"
)

// All has every address.
func All() api.Block { return api.Block{} }

// One has this address alone.
func One(ip int) api.Block { return around(ip, bound.AddressBits) }

func Right(b api.Block) bool {
	return bound.Within(b.Bits, 0, bound.AddressBits) && bound.Address(b.Base) && around(b.Base, b.Bits) == b
}

// Has asks a right block only: with other Bits there would be nothing to shift by.
func Has(b api.Block, ip int) bool { return around(ip, b.Bits) == b }

// around gives the one block of so many bits that has the address, so that == answers both whether a block is right and what it has.
func around(ip, bits int) api.Block {
	rest := bound.AddressBits - bits
	return api.Block{Base: ip >> rest << rest, Bits: bits}
}

// Without gives blocks that have what b has, but for what the excepts have. No two of them share an address, and they are as few as may be, since a block is halved only where an except lies inside it.
func Without(b api.Block, excepts []api.Block) []api.Block {
	if list.Any(excepts, func(e api.Block) bool { return within(b, e) }) {
		return nil
	}
	if !list.Any(excepts, func(e api.Block) bool { return within(e, b) }) {
		return []api.Block{b}
	}
	low, high := halves(b)
	return append(Without(low, excepts), Without(high, excepts)...)
}

// within: two blocks share all addresses of the smaller one or none.
func within(inner, outer api.Block) bool {
	return inner.Bits >= outer.Bits && Has(outer, inner.Base)
}

// halves asks a block of several addresses only.
func halves(b api.Block) (low, high api.Block) {
	bits := b.Bits + 1
	return api.Block{Base: b.Base, Bits: bits}, api.Block{Base: b.Base | 1<<(bound.AddressBits-bits), Bits: bits}
}
