package palisade

import (
	"math/rand/v2"
	"testing"

	"palisade/api"
)

// The model reads the document's words anew: blocks as ranges, labels bit by bit, and nothing shared with the program.

func modelBlock(b api.Block, ip int) bool {
	size := 1
	for range 32 - b.Bits {
		size *= 2
	}
	return ip >= b.Base && ip < b.Base+size
}

func modelSelects(s api.Selector, labels int) bool {
	for bit := 1; bit <= 128; bit *= 2 {
		has := labels&bit > 0
		if s.Need&bit > 0 && !has || s.Ban&bit > 0 && has {
			return false
		}
	}
	return true
}

func modelPeer(p api.Peer, space, ip int, pods []api.Pod) bool {
	if p.Kind == api.Blocks {
		for _, b := range p.Excepts {
			if modelBlock(b, ip) {
				return false
			}
		}
		return modelBlock(p.Block, ip)
	}
	for _, q := range pods {
		inSpace := p.Spaces == 0 && q.Space == space || p.Spaces&[]int{1, 2, 4, 8}[q.Space] > 0
		if q.Ip == ip && inSpace && modelSelects(p.Selector, q.Labels) {
			return true
		}
	}
	return false
}

func modelRule(r api.Rule, space, far int, pods []api.Pod, p api.Packet) bool {
	peers, ports := len(r.Peers) == 0, len(r.Ports) == 0
	for _, q := range r.Peers {
		peers = peers || modelPeer(q, space, far, pods)
	}
	for _, q := range r.Ports {
		ports = ports || (q.Proto == 0 || q.Proto == p.Proto) && p.Port >= q.From && p.Port <= q.To
	}
	return peers && ports
}

// modelGoes: of what one pod is held to, by the way that is asked.
func modelGoes(c api.Cluster, q api.Pod, way int, p api.Packet) bool {
	held, open := false, false
	for _, l := range c.Policies {
		if l.Space != q.Space || !modelSelects(l.Selector, q.Labels) || l.Ways != way && l.Ways != 3 {
			continue
		}
		held = true
		list, far := l.Outs, p.Dst
		if way == 2 {
			list, far = l.Ins, p.Src
		}
		for _, r := range list {
			open = open || modelRule(r, l.Space, far, c.Pods, p)
		}
	}
	return !held || open
}

// modelDecides: what the table of a host must say.
func modelDecides(c api.Cluster, host, way int, p api.Packet) bool {
	for _, q := range c.Pods {
		if q.Host == host && (way == 1 && q.Ip == p.Src || way == 2 && q.Ip == p.Dst) {
			return modelGoes(c, q, way, p)
		}
	}
	return true
}

func modelAllowed(c api.Cluster, p api.Packet) bool {
	for host := range 4 {
		if !modelDecides(c, host, 1, p) || !modelDecides(c, host, 2, p) {
			return false
		}
	}
	return true
}

// maker makes small clusters, so that their parts often meet; its seed is fixed. All addresses lie near base, a number that ends in five bits of 0.
type maker struct {
	*rand.Rand
	base int
}

const lastAddress = 1<<32 - 1

// makers make their clusters at the least and at the greatest addresses, and where an address turns negative as an int32.
func makers(seed uint64) []maker {
	var l []maker
	for _, base := range []int{0, lastAddress - 31, 1 << 31} {
		l = append(l, maker{rand.New(rand.NewPCG(seed, uint64(base))), base})
	}
	return l
}

func (m maker) selector() api.Selector {
	return api.Selector{Need: m.IntN(4) & m.IntN(4), Ban: m.IntN(4) & m.IntN(4) & m.IntN(4)}
}

func (m maker) block() api.Block {
	rest := m.IntN(6)
	if m.IntN(16) == 0 {
		rest = 32
	}
	return api.Block{Base: (m.base + m.IntN(32)) >> rest << rest, Bits: 32 - rest}
}

func (m maker) peer() api.Peer {
	if m.IntN(2) == 0 {
		return api.Peer{Kind: api.Pods, Selector: m.selector(), Spaces: m.IntN(16) * m.IntN(2)}
	}
	p := api.Peer{Kind: api.Blocks, Block: m.block()}
	for range m.IntN(3) {
		p.Excepts = append(p.Excepts, m.block())
	}
	return p
}

func (m maker) rule() api.Rule {
	var r api.Rule
	for range m.IntN(3) {
		r.Peers = append(r.Peers, m.peer())
	}
	for range m.IntN(3) {
		from := m.IntN(4)
		r.Ports = append(r.Ports, api.Port{Proto: m.IntN(3), From: from, To: from + m.IntN(3)})
	}
	return r
}

// pod leaves the address to be chosen.
func (m maker) pod(hosts int) api.Pod {
	return api.Pod{Host: m.IntN(hosts), Space: m.IntN(4) * m.IntN(2), Labels: m.IntN(4)}
}

func (m maker) policy() api.Policy {
	p := api.Policy{Space: m.IntN(4) * m.IntN(2), Selector: m.selector(), Ways: 1 + m.IntN(3)}
	for range m.IntN(3) * (p.Ways % 2) {
		p.Outs = append(p.Outs, m.rule())
	}
	for range m.IntN(3) * (p.Ways / 2) {
		p.Ins = append(p.Ins, m.rule())
	}
	return p
}

func (m maker) cluster() api.Cluster {
	var c api.Cluster
	hosts := 1 + m.IntN(4)
	for _, n := range m.Perm(32)[:m.IntN(9)] {
		p := m.pod(hosts)
		p.Ip = m.base + n
		c.Pods = append(c.Pods, p)
	}
	for range m.IntN(5) {
		c.Policies = append(c.Policies, m.policy())
	}
	return c
}

// packet takes pods for its ends half of the time: strangers are seldom held back.
func (m maker) packet(c api.Cluster) api.Packet {
	end := func() int { return (m.base + m.IntN(34) - 1) & lastAddress }
	p := api.Packet{Src: end(), Dst: end(), Proto: 1 + m.IntN(2), Port: m.IntN(7)}
	if n := len(c.Pods); n > 0 && m.IntN(2) == 0 {
		p.Src, p.Dst = c.Pods[m.IntN(n)].Ip, c.Pods[m.IntN(n)].Ip
	}
	return p
}

func TestAllowedAsTheModelSays(t *testing.T) {
	answers := map[bool]int{}
	for _, m := range makers(3) {
		for range 1000 {
			c := m.cluster()
			for range 50 {
				p := m.packet(c)
				want := modelAllowed(c, p)
				answers[want]++
				if a, e := Allowed(c, p); a != want || e != api.OK {
					t.Fatalf("P4: Allowed(%+v, %+v) = %v, %d, want %v, OK", c, p, a, e, want)
				}
			}
		}
	}
	if answers[true] < 20000 || answers[false] < 20000 {
		t.Errorf("the packets try too little: %v", answers)
	}
}
