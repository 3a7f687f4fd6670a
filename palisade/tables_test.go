package palisade

import (
	"math"
	"slices"
	"testing"

	"palisade/api"
)

// read has all that tables tell of themselves.
type read struct {
	*Tables
	c    api.Cluster
	rows map[place][]api.Row
}

func compiled(t *testing.T, c api.Cluster) read {
	t.Helper()
	x, e, at := Compile(c)
	if x == nil || e != api.OK || at != 0 {
		t.Fatalf("P5: Compile(%+v) = %p, %d, %d", c, x, e, at)
	}
	return readOf(t, x, c)
}

// readOf reads tables that should be those of a cluster.
func readOf(t *testing.T, x *Tables, c api.Cluster) read {
	t.Helper()
	out := read{x, c, map[place][]api.Row{}}
	for host := range 4 {
		for way := 1; way <= 2; way++ {
			rows, e := x.Rows(host, way)
			if e != api.OK || len(rows) == 0 || len(rows) > 20000 {
				t.Fatalf("P5: Rows(%d, %d): %d rows, %d", host, way, len(rows), e)
			}
			out.rows[place{host, way}] = rows
		}
	}
	return out
}

func modelRowRight(r api.Row) bool {
	for _, b := range []api.Block{r.Src, r.Dst} {
		if b.Bits < 0 || b.Bits > 32 || b.Base < 0 || b.Base > lastAddress || b.Base%(1<<(32-b.Bits)) != 0 {
			return false
		}
	}
	return r.Proto >= 0 && r.Proto <= 2 && r.From >= 0 && r.From <= r.To && r.To <= 65535
}

func modelFits(r api.Row, p api.Packet) bool {
	return modelBlock(r.Src, p.Src) && modelBlock(r.Dst, p.Dst) && (r.Proto == 0 || r.Proto == p.Proto) && r.From <= p.Port && p.Port <= r.To
}

func expectRightRows(t *testing.T, name string, x read) {
	t.Helper()
	every := api.Row{To: 65535, Allow: true}
	for at, rows := range x.rows {
		for i, r := range rows {
			if !modelRowRight(r) {
				t.Errorf("P5: %s: row %d of %v is %+v", name, i, at, r)
			}
			if slices.Contains(rows[:i], r) {
				t.Errorf("P5: %s: row %d of %v stands there twice: %+v", name, i, at, r)
			}
		}
		if last := rows[len(rows)-1]; last != every {
			t.Errorf("P5: %s: the last row of %v is %+v", name, at, last)
		}
	}
}

// expectDecides holds every table, and what Admits says, against the document's words.
func expectDecides(t *testing.T, name string, x read, p api.Packet) {
	t.Helper()
	for at, rows := range x.rows {
		number := slices.IndexFunc(rows, func(r api.Row) bool { return modelFits(r, p) })
		want := modelDecides(x.c, at.host, at.way, p)
		if d, n, e := x.Decide(at.host, at.way, p); d != want || n != number || e != api.OK || rows[n].Allow != d {
			t.Errorf("P6: %s: Decide(%d, %d, %+v) = %v, %d, %d, want %v, %d, OK", name, at.host, at.way, p, d, n, e, want, number)
		}
	}
	if want, e := Allowed(x.c, p); want != modelAllowed(x.c, p) || e != api.OK {
		t.Errorf("P4: %s: Allowed(%+v) = %v, %d", name, p, want, e)
	}
	if a, e := x.Admits(p); a != modelAllowed(x.c, p) || e != api.OK {
		t.Errorf("P7: %s: Admits(%+v) = %v, %d", name, p, a, e)
	}
}

func TestDecideInTheExample(t *testing.T) {
	x := compiled(t, web())
	expectRightRows(t, "the example", x)
	for _, y := range []struct {
		host, way int
		p         api.Packet
		want      bool
	}{
		{1, api.In, tcp(one, two, 80), true},
		{1, api.In, tcp(one, two, 90), true},
		{1, api.In, tcp(one, two, 79), false},
		{1, api.In, tcp(one, two, 91), false},
		{1, api.In, api.Packet{Src: one, Dst: two, Proto: api.Udp, Port: 80}, false},
		{1, api.In, tcp(three, two, 80), false},
		{1, api.In, tcp(stranger, two, 80), false},
		{1, api.In, tcp(two, two, 80), false},
		{1, api.In, tcp(stranger, three, 1), true},
		{1, api.In, tcp(two, one, 1), true},
		{1, api.Out, tcp(one, two, 91), true},
		{1, api.Out, tcp(two, one, 91), true},
		{0, api.In, tcp(one, two, 91), true},
		{0, api.Out, tcp(one, two, 91), true},
		{2, api.In, tcp(one, two, 91), true},
		{3, api.Out, tcp(one, two, 91), true},
	} {
		if d, _, e := x.Decide(y.host, y.way, y.p); d != y.want || e != api.OK {
			t.Errorf("P6: Decide(%d, %d, %+v) = %v, %d, want %v, OK", y.host, y.way, y.p, d, e, y.want)
		}
		expectDecides(t, "the example", x, y.p)
	}
}

func TestAdmitsInTheExample(t *testing.T) {
	x := compiled(t, web())
	for _, y := range []struct {
		p    api.Packet
		want bool
	}{
		{tcp(one, two, 80), true}, {tcp(one, two, 91), false}, {api.Packet{Src: one, Dst: two, Proto: api.Udp, Port: 80}, false},
		{tcp(three, two, 80), false}, {tcp(stranger, two, 80), false}, {tcp(two, one, 80), true}, {tcp(stranger, stranger, 0), true},
	} {
		if a, e := x.Admits(y.p); a != y.want || e != api.OK {
			t.Errorf("P7: Admits(%+v) = %v, %d, want %v, OK", y.p, a, e, y.want)
		}
	}
}

func TestTablesWithoutPolicies(t *testing.T) {
	for name, c := range map[string]api.Cluster{"nothing": {}, "no policies": {Pods: full().Pods}, "no pods": {Policies: full().Policies}} {
		x := compiled(t, c)
		expectRightRows(t, name, x)
		for _, src := range []int{0, ip(10, 0, 0, 1), lastAddress} {
			for _, dst := range []int{0, ip(10, 0, 0, 2), lastAddress} {
				expectDecides(t, name, x, tcp(src, dst, 0))
				if a, e := x.Admits(tcp(src, dst, 65535)); !a || e != api.OK {
					t.Errorf("P7: %s: Admits = %v, %d", name, a, e)
				}
			}
		}
	}
}

// edges gives the first and last address of each block, and their neighbours.
func edges(blocks ...api.Block) []int {
	var l []int
	for _, b := range blocks {
		after := b.Base + 1<<(32-b.Bits)
		l = append(l, b.Base-1, b.Base, after-1, after)
	}
	l = slices.DeleteFunc(l, func(ip int) bool { return ip < 0 || ip > lastAddress })
	slices.Sort(l)
	return slices.Compact(l)
}

func TestDecideAtTheEdgesOfBlocks(t *testing.T) {
	blocks := []api.Block{
		{}, {Base: 0, Bits: 1}, {Base: 1 << 31, Bits: 1}, {Base: ip(10, 0, 0, 0), Bits: 7}, {Base: ip(10, 0, 0, 0), Bits: 8},
		{Base: ip(10, 1, 0, 0), Bits: 16}, {Base: ip(10, 1, 2, 0), Bits: 24}, {Base: ip(10, 1, 3, 0), Bits: 24},
		{Base: ip(10, 1, 2, 3), Bits: 32}, {Base: 0, Bits: 32}, {Base: lastAddress, Bits: 32}, {Base: lastAddress - 1, Bits: 31},
	}
	const near = 7
	for _, b := range blocks {
		for i, first := range blocks {
			for _, excepts := range [][]api.Block{nil, {first}, {first, blocks[(i+1)%len(blocks)]}, {blocks[(i+2)%len(blocks)], first}, {first, first}} {
				r := []api.Rule{{Peers: []api.Peer{{Kind: api.Blocks, Block: b, Excepts: excepts}}}}
				x := compiled(t, api.Cluster{Pods: []api.Pod{{Host: 2, Ip: near}}, Policies: []api.Policy{{Ways: 3, Outs: r, Ins: r}}})
				expectRightRows(t, "edges", x)
				for _, far := range edges(append(excepts, b)...) {
					expectDecides(t, "edges", x, tcp(near, far, 0))
					expectDecides(t, "edges", x, tcp(far, near, 65535))
				}
			}
		}
	}
}

// What one peer's excepts leave out another peer, rule or policy may have.
func TestDecideBySeveralPeers(t *testing.T) {
	wide := api.Peer{Kind: api.Blocks, Block: api.Block{Base: ip(10, 0, 0, 0), Bits: 8},
		Excepts: []api.Block{{Base: ip(10, 1, 0, 0), Bits: 16}, {Base: ip(10, 1, 2, 0), Bits: 24}}}
	narrow := api.Peer{Kind: api.Blocks, Block: api.Block{Base: ip(10, 1, 2, 0), Bits: 24}}
	inside, still := tcp(ip(10, 1, 2, 3), one, 1), tcp(ip(10, 1, 3, 3), one, 1)
	in := func(rules ...api.Rule) api.Policy { return api.Policy{Ways: api.In, Ins: rules} }
	with := func(peers ...api.Peer) api.Rule { return api.Rule{Peers: peers} }
	for name, l := range map[string][]api.Policy{
		"peers":               {in(with(wide, narrow))},
		"peers, turned round": {in(with(narrow, wide))},
		"rules":               {in(with(wide), with(narrow))},
		"rules, turned round": {in(with(narrow), with(wide))},
		"policies":            {in(with(wide)), in(with(narrow))},
		"a pod's address":     {in(with(wide, api.Peer{Kind: api.Pods, Spaces: 2}))},
	} {
		x := compiled(t, api.Cluster{Pods: []api.Pod{{Ip: one}, {Ip: inside.Src, Space: 1, Host: 3}}, Policies: l})
		expectRightRows(t, name, x)
		for p, want := range map[api.Packet]bool{inside: true, still: false, tcp(ip(10, 2, 0, 1), one, 1): true, tcp(ip(11, 0, 0, 1), one, 1): false} {
			expectDecides(t, name, x, p)
			if d, _, e := x.Decide(0, api.In, p); d != want || e != api.OK {
				t.Errorf("P6: %s: Decide of %+v = %v, %d, want %v, OK", name, p, d, e, want)
			}
		}
	}
}

// A rule whose peers have no address lets nothing go; one without peers lets all go.
func TestDecideByPeersOfNothing(t *testing.T) {
	nobody := api.Peer{Kind: api.Pods, Selector: api.Selector{Need: 128}}
	nothing := api.Peer{Kind: api.Blocks, Excepts: []api.Block{{}}}
	for name, y := range map[string]struct {
		rule api.Rule
		want bool
	}{
		"no peers": {api.Rule{}, true}, "nobody": {api.Rule{Peers: []api.Peer{nobody}}, false},
		"nothing": {api.Rule{Peers: []api.Peer{nothing}}, false}, "both": {api.Rule{Peers: []api.Peer{nobody, nothing}}, false},
	} {
		x := compiled(t, api.Cluster{Pods: []api.Pod{{Ip: one}}, Policies: []api.Policy{{Ways: api.Out, Outs: []api.Rule{y.rule}}}})
		expectRightRows(t, name, x)
		expectDecides(t, name, x, tcp(one, stranger, 1))
		if d, _, e := x.Decide(0, api.Out, tcp(one, stranger, 1)); d != y.want || e != api.OK {
			t.Errorf("P6: %s: Decide = %v, %d, want %v, OK", name, d, e, y.want)
		}
	}
}

func TestTablesAsTheModelSays(t *testing.T) {
	answers := map[bool]int{}
	for _, m := range makers(5) {
		for range 600 {
			x := compiled(t, m.cluster())
			expectRightRows(t, "made", x)
			for range 30 {
				p := m.packet(x.c)
				expectDecides(t, "made", x, p)
				answers[modelAllowed(x.c, p)]++
			}
			if t.Failed() {
				t.Fatalf("in %+v", x.c)
			}
		}
	}
	if answers[true] < 5000 || answers[false] < 5000 {
		t.Errorf("the packets try too little: %v", answers)
	}
}

// greatest gives a cluster of as many rows as may be: all pods on one host under all policies, no two peers of one rule with a piece in common, no two rules with a port.
func greatest() (api.Cluster, []int) {
	c := api.Cluster{Policies: make([]api.Policy, api.MaxPolicies)}
	for i := range api.MaxPods {
		c.Pods = append(c.Pods, api.Pod{Host: 3, Ip: ip(10, 0, 0, i)})
	}
	var left []int
	port := 0
	rule := func() api.Rule {
		var r api.Rule
		for quarter := range api.MaxEach {
			low := quarter<<30 + 1000*port + 1
			left = append(left, low, low+1<<31)
			r.Peers = append(r.Peers, api.Peer{Kind: api.Blocks, Excepts: []api.Block{{Base: low, Bits: 32}, {Base: low + 1<<31, Bits: 32}}})
			r.Ports = append(r.Ports, api.Port{Proto: api.Tcp, From: port, To: port})
			port++
		}
		return r
	}
	for i := range c.Policies {
		c.Policies[i] = api.Policy{Ways: 3, Outs: []api.Rule{rule(), rule()}, Ins: []api.Rule{rule(), rule()}}
	}
	return c, left
}

func TestRowsOfAGreatestCluster(t *testing.T) {
	c, left := greatest()
	x := compiled(t, c)
	for way := 1; way <= 2; way++ {
		if n := len(x.rows[place{3, way}]); n < 10000 || n > api.MaxRows {
			t.Errorf("P5: a greatest cluster has %d rows by way %d", n, way)
		}
	}
	for i, far := range left {
		for port := i / 4 * 4; port < i/4*4+4; port++ {
			near := c.Pods[i%len(c.Pods)].Ip
			expectDecides(t, "greatest", x, tcp(near, far, port))
			expectDecides(t, "greatest", x, tcp(far+1, near, port))
		}
	}
}

var noPlaces = []place{
	{-1, api.Out}, {4, api.Out}, {4, api.In}, {math.MinInt, api.In}, {math.MaxInt, api.Out}, {1 << 32, api.Out},
	{0, 0}, {0, 3}, {3, -1}, {0, 4}, {1, math.MinInt}, {1, math.MaxInt}, {0, 1<<32 + 1}, {-1, 0}, {4, 3},
}

func TestTablesThatAreNotThere(t *testing.T) {
	for _, c := range []api.Cluster{{}, web(), full()} {
		x := compiled(t, c)
		for _, at := range noPlaces {
			if rows, e := x.Rows(at.host, at.way); rows != nil || e != api.ErrHost {
				t.Errorf("P5: Rows(%d, %d) = %v, %d, want nil, ErrHost", at.host, at.way, rows, e)
			}
			for _, p := range []api.Packet{tcp(one, two, 80), {Src: -1}} {
				if d, n, e := x.Decide(at.host, at.way, p); d || n != 0 || e != api.ErrHost {
					t.Errorf("P6: Decide(%d, %d, %+v) = %v, %d, %d, want false, 0, ErrHost", at.host, at.way, p, d, n, e)
				}
			}
		}
	}
}

func TestTablesOfWrongPackets(t *testing.T) {
	x := compiled(t, web())
	right := tcp(stranger, stranger, 80)
	for name, y := range map[string]struct {
		of        func(p *api.Packet) *int
		low, high int
	}{
		"Src":   {func(p *api.Packet) *int { return &p.Src }, 0, lastAddress},
		"Dst":   {func(p *api.Packet) *int { return &p.Dst }, 0, lastAddress},
		"Proto": {func(p *api.Packet) *int { return &p.Proto }, 1, 2},
		"Port":  {func(p *api.Packet) *int { return &p.Port }, 0, 65535},
	} {
		for _, value := range []int{y.low - 1, y.high + 1, math.MinInt, math.MaxInt} {
			p := right
			*y.of(&p) = value
			for at := range x.rows {
				if d, n, e := x.Decide(at.host, at.way, p); d || n != 0 || e != api.ErrPacket {
					t.Errorf("P6: %s %d: Decide = %v, %d, %d, want false, 0, ErrPacket", name, value, d, n, e)
				}
			}
			if a, e := x.Admits(p); a || e != api.ErrPacket {
				t.Errorf("P7: %s %d: Admits = %v, %d, want false, ErrPacket", name, value, a, e)
			}
		}
		for _, value := range []int{y.low, y.high} {
			p := right
			*y.of(&p) = value
			expectDecides(t, name, x, p)
		}
	}
}
