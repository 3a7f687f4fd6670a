// Package row has what is asked of rows.
package row

import (
	"cmp"
	"slices"

	"palisade/api"
	"palisade/block"
	"palisade/packet"
)

// Of makes a row that decides of packets between the two ends, the near one being that by whose policies they are judged.
func Of(way int, near, far api.Block, port api.Port, allow bool) api.Row {
	r := api.Row{Src: far, Dst: near, Proto: port.Proto, From: port.From, To: port.To, Allow: allow}
	if way == api.Out {
		r.Src, r.Dst = near, far
	}
	return r
}

func Fits(r api.Row, p api.Packet) bool {
	return block.Has(r.Src, p.Src) && block.Has(r.Dst, p.Dst) &&
		packet.PortFits(api.Port{Proto: r.Proto, From: r.From, To: r.To}, p)
}

// Once gives rows that all allow or all deny in an order of their own, each but once: among such rows the order decides nothing, and same rows come to stand side by side, where == finds them.
func Once(rows []api.Row) []api.Row {
	var l []api.Row
	for _, r := range slices.SortedFunc(slices.Values(rows), compare) {
		if len(l) == 0 || l[len(l)-1] != r {
			l = append(l, r)
		}
	}
	return l
}

func compare(a, b api.Row) int {
	return cmp.Or(
		compareBlocks(a.Src, b.Src),
		compareBlocks(a.Dst, b.Dst),
		cmp.Compare(a.Proto, b.Proto),
		cmp.Compare(a.From, b.From),
		cmp.Compare(a.To, b.To),
	)
}

func compareBlocks(a, b api.Block) int {
	return cmp.Or(cmp.Compare(a.Base, b.Base), cmp.Compare(a.Bits, b.Bits))
}
