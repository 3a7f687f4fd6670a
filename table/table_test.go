package table

import (
	"slices"
	"testing"

	"palisade/api"
)

var every = api.Row{To: 65535, Allow: true}

func one(ip int) api.Block { return api.Block{Base: ip, Bits: 32} }

// talk: pods 5 and 6 of host 1 may talk to 9 by Tcp 80, and be talked to by nobody; pod 7 is not held back.
func talk() api.Cluster {
	rule := api.Rule{Peers: []api.Peer{{Kind: api.Blocks, Block: one(9)}}, Ports: []api.Port{{Proto: api.Tcp, From: 80, To: 80}}}
	return api.Cluster{
		Pods:     []api.Pod{{Host: 1, Ip: 5}, {Host: 1, Ip: 6}, {Host: 1, Ip: 7, Space: 1}, {Host: 2, Ip: 8}},
		Policies: []api.Policy{{Ways: 3, Outs: []api.Rule{rule, rule}}, {Ways: api.Out, Outs: []api.Rule{rule}}},
	}
}

func TestMake(t *testing.T) {
	allow := func(ip int) api.Row {
		return api.Row{Src: one(ip), Dst: one(9), Proto: api.Tcp, From: 80, To: 80, Allow: true}
	}
	for _, x := range []struct {
		name      string
		host, way int
		want      []api.Row
	}{
		{"Out", 1, api.Out, []api.Row{allow(5), {Src: one(5), To: 65535}, allow(6), {Src: one(6), To: 65535}, every}},
		{"In", 1, api.In, []api.Row{{Dst: one(5), To: 65535}, {Dst: one(6), To: 65535}, every}},
		{"another host", 2, api.In, []api.Row{{Dst: one(8), To: 65535}, every}},
		{"a host without pods", 3, api.Out, []api.Row{every}},
	} {
		if got := Make(talk(), x.host, x.way); !slices.Equal(got, x.want) {
			t.Errorf("%s: %+v, want %+v", x.name, got, x.want)
		}
	}
}

func TestDecides(t *testing.T) {
	rows := []api.Row{{Src: one(5), From: 80, To: 90, Allow: true}, {Src: one(5), From: 85, To: 65535}, every}
	for _, x := range []struct {
		src, port int
		allow     bool
		number    int
	}{{5, 80, true, 0}, {5, 86, true, 0}, {5, 91, false, 1}, {5, 79, true, 2}, {6, 91, true, 2}} {
		p := api.Packet{Src: x.src, Dst: 1, Proto: api.Udp, Port: x.port}
		if allow, n := Decides(rows, p); allow != x.allow || n != x.number {
			t.Errorf("%+v: %v, %d, want %v, %d", p, allow, n, x.allow, x.number)
		}
	}
}
