package packet

import (
	"testing"

	"palisade/api"
)

func TestPortFits(t *testing.T) {
	for _, x := range []struct {
		port          api.Port
		proto, number int
		want          bool
	}{
		{api.Port{Proto: api.Tcp, From: 80, To: 90}, api.Tcp, 79, false},
		{api.Port{Proto: api.Tcp, From: 80, To: 90}, api.Tcp, 80, true},
		{api.Port{Proto: api.Tcp, From: 80, To: 90}, api.Tcp, 90, true},
		{api.Port{Proto: api.Tcp, From: 80, To: 90}, api.Tcp, 91, false},
		{api.Port{Proto: api.Tcp, From: 80, To: 90}, api.Udp, 85, false},
		{api.Port{Proto: api.Udp, From: 80, To: 90}, api.Tcp, 85, false},
		{api.Port{Proto: api.Udp, From: 80, To: 90}, api.Udp, 85, true},
		{api.Port{Proto: 0, From: 80, To: 90}, api.Tcp, 85, true},
		{api.Port{Proto: 0, From: 80, To: 90}, api.Udp, 85, true},
		{api.Port{Proto: 0, From: 80, To: 90}, api.Udp, 91, false},
		{api.Port{}, api.Tcp, 0, true},
		{api.Port{}, api.Tcp, 1, false},
		{api.Port{From: 65535, To: 65535}, api.Udp, 65535, true},
		{api.Port{From: 0, To: 65535}, api.Udp, 65535, true},
	} {
		if got := PortFits(x.port, api.Packet{Proto: x.proto, Port: x.number}); got != x.want {
			t.Errorf("PortFits(%+v, proto %d, port %d) = %v", x.port, x.proto, x.number, got)
		}
	}
}

func TestEnds(t *testing.T) {
	p := api.Packet{Src: 1, Dst: 2}
	if near, far := Ends(p, api.Out); near != 1 || far != 2 {
		t.Errorf("Ends by Out = %d, %d", near, far)
	}
	if near, far := Ends(p, api.In); near != 2 || far != 1 {
		t.Errorf("Ends by In = %d, %d", near, far)
	}
}

func TestEveryPort(t *testing.T) {
	if !PortRight(EveryPort()) {
		t.Errorf("%+v is no port", EveryPort())
	}
	for _, proto := range []int{api.Tcp, api.Udp} {
		for _, number := range []int{0, 1, 65535} {
			if !PortFits(EveryPort(), api.Packet{Proto: proto, Port: number}) {
				t.Errorf("protocol %d, port %d is left out", proto, number)
			}
		}
	}
}
