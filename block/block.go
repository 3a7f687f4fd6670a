// Package block tells which addresses a block has.
package block

import (
	"palisade/api"
	"palisade/bound"
)

func Right(b api.Block) bool {
	return bound.Within(b.Bits, 0, bound.AddressBits) && bound.Address(b.Base) && around(b.Base, b.Bits) == b
}

// Has asks a right block only: with other Bits there would be nothing to shift by.
func Has(b api.Block, ip int) bool { return around(ip, b.Bits) == b }

// around gives the one block of so many bits that has the address, so that == answers both whether a block is right and what it has.
func around(ip, bits int) api.Block {
	rest := bound.AddressBits - bits
	return api.Block{Base: ip >> rest << rest, Bits: bits}
}
