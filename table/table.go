// Package table makes tables of rows that say what policies say, and tells which row decides.
package table

import (
	"slices"

	"palisade/api"
	"palisade/block"
	"palisade/packet"
	"palisade/policy"
	"palisade/row"
)

// Make asks a right cluster only. What is no pod of the host falls through to the last row.
func Make(c api.Cluster, host, way int) []api.Row {
	var rows []api.Row
	for _, p := range c.Pods {
		if p.Host == host {
			rows = append(rows, ofPod(c, way, p)...)
		}
	}
	return append(rows, row.Of(way, block.All(), block.All(), packet.EveryPort(), true))
}

// ofPod denies behind all that it allows, so that it does not matter which policy allows.
func ofPod(c api.Cluster, way int, p api.Pod) []api.Row {
	held := policy.Applying(c.Policies, way, p)
	if len(held) == 0 {
		return nil
	}
	near := block.One(p.Ip)
	var rows []api.Row
	for _, q := range held {
		for _, g := range policy.Gaps(q, way, c.Pods) {
			rows = append(rows, row.Of(way, near, g.Far, g.Port, true))
		}
	}
	return append(row.Once(rows), row.Of(way, near, block.All(), packet.EveryPort(), false))
}

// Decides tells what the first row that fits says, and its number. There is one: the last row of a table fits every packet.
func Decides(rows []api.Row, p api.Packet) (bool, int) {
	n := slices.IndexFunc(rows, func(r api.Row) bool { return row.Fits(r, p) })
	return rows[n].Allow, n
}
