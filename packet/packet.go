// Package packet has what is asked of packets, and of the ports that fit them.
package packet

import (
	"palisade/api"
	"palisade/bound"
)

func Right(p api.Packet) bool {
	return bound.Address(p.Src) && bound.Address(p.Dst) && bound.Within(p.Proto, api.Tcp, api.Udp) && bound.Port(p.Port)
}

// Ends turns a packet so that the end by whose policies it is judged comes first.
func Ends(p api.Packet, way int) (near, far int) {
	if way == api.Out {
		return p.Src, p.Dst
	}
	return p.Dst, p.Src
}

// anyProto is no protocol of a packet: a port that has it fits all of them.
const anyProto = 0

// EveryPort fits every packet.
func EveryPort() api.Port { return api.Port{Proto: anyProto, From: 0, To: bound.MaxPort} }

func PortRight(p api.Port) bool {
	return bound.Within(p.Proto, anyProto, api.Udp) && bound.Port(p.From) && bound.Port(p.To) && p.From <= p.To
}

func PortFits(port api.Port, p api.Packet) bool {
	return (port.Proto == anyProto || port.Proto == p.Proto) && bound.Within(p.Port, port.From, port.To)
}
