package peer

import (
	"slices"
	"testing"

	"palisade/api"
)

func TestPods(t *testing.T) {
	in := Scope{Space: 1, Pods: []api.Pod{
		{Ip: 10, Space: 0, Labels: 1}, {Ip: 11, Space: 1, Labels: 1}, {Ip: 12, Space: 1, Labels: 3},
		{Ip: 13, Space: 2, Labels: 1}, {Ip: 14, Space: 3, Labels: 1}, {Ip: 15, Space: 3, Labels: 2},
	}}
	for _, x := range []struct {
		name string
		peer api.Peer
		want []int
	}{
		{"its own space", api.Peer{Kind: api.Pods}, []int{11, 12}},
		{"its own space, by label", api.Peer{Kind: api.Pods, Selector: api.Selector{Need: 2}}, []int{12}},
		{"its own space, but for a label", api.Peer{Kind: api.Pods, Selector: api.Selector{Ban: 2}}, []int{11}},
		{"space 0", api.Peer{Kind: api.Pods, Spaces: 1}, []int{10}},
		{"space 1", api.Peer{Kind: api.Pods, Spaces: 2}, []int{11, 12}},
		{"space 2", api.Peer{Kind: api.Pods, Spaces: 4}, []int{13}},
		{"space 3", api.Peer{Kind: api.Pods, Spaces: 8}, []int{14, 15}},
		{"all spaces", api.Peer{Kind: api.Pods, Spaces: 15}, []int{10, 11, 12, 13, 14, 15}},
		{"all spaces, by label", api.Peer{Kind: api.Pods, Spaces: 15, Selector: api.Selector{Need: 1, Ban: 2}}, []int{10, 11, 13, 14}},
		{"nobody", api.Peer{Kind: api.Pods, Spaces: 15, Selector: api.Selector{Need: 1, Ban: 1}}, nil},
	} {
		wanted := map[int]bool{}
		for _, ip := range x.want {
			wanted[ip] = true
		}
		for ip := range 20 {
			if got := Has(x.peer, ip, in); got != wanted[ip] {
				t.Errorf("%s: has %d: %v", x.name, ip, got)
			}
		}
		var blocks []api.Block
		for _, ip := range x.want {
			blocks = append(blocks, api.Block{Base: ip, Bits: 32})
		}
		if got := Blocks(x.peer, in); !slices.Equal(got, blocks) {
			t.Errorf("%s: blocks %v, want %v", x.name, got, blocks)
		}
	}
}

func TestBlocks(t *testing.T) {
	peer := api.Peer{Kind: api.Blocks, Block: api.Block{Base: 16, Bits: 28}, Excepts: []api.Block{{Base: 20, Bits: 30}, {Base: 31, Bits: 32}}}
	in := Scope{Pods: []api.Pod{{Ip: 20}, {Ip: 40}}}
	for ip := range 64 {
		want := ip >= 16 && ip < 31 && (ip < 20 || ip > 23)
		if got := Has(peer, ip, in); got != want {
			t.Errorf("has %d: %v", ip, got)
		}
		one := func(b api.Block) bool { return b.Base <= ip && ip < b.Base+1<<(32-b.Bits) }
		if got := slices.ContainsFunc(Blocks(peer, in), one); got != want {
			t.Errorf("a block has %d: %v", ip, got)
		}
	}
}

func TestNoKind(t *testing.T) {
	for _, kind := range []int{-1, 0, 3} {
		if p := (api.Peer{Kind: kind}); Right(p) || Has(p, 0, Scope{}) || len(Blocks(p, Scope{})) > 0 {
			t.Errorf("a peer of kind %d is right or has an address", kind)
		}
	}
}

func TestCopySharesNothing(t *testing.T) {
	p := api.Peer{Kind: api.Blocks, Block: api.Block{Bits: 1}, Excepts: []api.Block{{Bits: 2}, {Bits: 3}}}
	was := Copy(p)
	p.Excepts[0].Bits = 4
	if !slices.Equal(was.Excepts, []api.Block{{Bits: 2}, {Bits: 3}}) || was.Kind != api.Blocks || was.Block.Bits != 1 {
		t.Errorf("Copy gives %+v", was)
	}
	if none := Copy(api.Peer{Kind: api.Pods, Selector: api.Selector{Need: 1}, Spaces: 5}); none.Selector.Need != 1 || none.Spaces != 5 || len(none.Excepts) != 0 {
		t.Errorf("Copy gives %+v", none)
	}
}
