package palisade

import (
	"math"
	"reflect"
	"slices"
	"testing"

	"palisade/api"
)

// changing has tables, and the cluster that they must be of: what changes the tables is done to the cluster too, by the test's own means.
type changing struct {
	*testing.T
	x *Tables
	c api.Cluster
}

func changingOf(t *testing.T, c api.Cluster) *changing {
	t.Helper()
	return &changing{t, compiled(t, c).Tables, c}
}

// expectOf asks for the very tables that Compile gives, and holds them against the document's words, for packets between all pods and some that were or may be.
func (h *changing) expectOf(name string) {
	h.Helper()
	now := readOf(h.T, h.x, h.c)
	expectRightRows(h.T, name, now)
	if !reflect.DeepEqual(now.rows, compiled(h.T, h.c).rows) {
		h.Errorf("P8: %s: the tables are not those of the cluster as it is", name)
	}
	ends := []int{0, one, two, three, four, stranger}
	for _, p := range h.c.Pods {
		ends = append(ends, p.Ip)
	}
	for _, src := range ends {
		for _, dst := range ends {
			expectDecides(h.T, name, now, tcp(src, dst, 80))
			expectDecides(h.T, name, now, tcp(src, dst, 91))
		}
	}
}

func (h *changing) expectOK(name string, e api.Errno) {
	h.Helper()
	if e != api.OK {
		h.Errorf("P8: %s: error %d", name, e)
	}
	h.expectOf(name)
}

// expectRefused asks for the error, and that nothing has changed by the call.
func (h *changing) expectRefused(name string, e, want api.Errno) {
	h.Helper()
	if e != want {
		h.Errorf("P8: %s: error %d, want %d", name, e, want)
	}
	h.expectOf(name)
}

func (h *changing) expectAdmits(name string, p api.Packet, want bool) {
	h.Helper()
	if a, e := h.x.Admits(p); a != want || e != api.OK {
		h.Errorf("P8: %s: Admits(%+v) = %v, %d, want %v, OK", name, p, a, e, want)
	}
}

func (h *changing) expectDecide(name string, at place, p api.Packet, want bool) {
	h.Helper()
	if d, _, e := h.x.Decide(at.host, at.way, p); d != want || e != api.OK {
		h.Errorf("P8: %s: Decide(%d, %d, %+v) = %v, %d, want %v, OK", name, at.host, at.way, p, d, e, want)
	}
}

func (h *changing) addPod(p api.Pod) {
	h.Helper()
	e := h.x.AddPod(p)
	h.c.Pods = append(slices.Clone(h.c.Pods), p)
	h.expectOK("AddPod", e)
}

func (h *changing) dropPod(ip int) {
	h.Helper()
	e := h.x.DropPod(ip)
	var left []api.Pod
	for _, p := range h.c.Pods {
		if p.Ip != ip {
			left = append(left, p)
		}
	}
	h.c.Pods = left
	h.expectOK("DropPod", e)
}

func (h *changing) addPolicy(p api.Policy) {
	h.Helper()
	e := h.x.AddPolicy(p)
	h.c.Policies = append(slices.Clone(h.c.Policies), p)
	h.expectOK("AddPolicy", e)
}

func (h *changing) dropPolicy(i int) {
	h.Helper()
	e := h.x.DropPolicy(i)
	var left []api.Policy
	for j, p := range h.c.Policies {
		if j != i {
			left = append(left, p)
		}
	}
	h.c.Policies = left
	h.expectOK("DropPolicy", e)
}

var four = ip(10, 0, 0, 4)

func TestAddPod(t *testing.T) {
	h := changingOf(t, web())
	h.expectAdmits("ahead, as no peer", tcp(four, two, 80), false)
	h.expectAdmits("ahead, as no pod", tcp(three, four, 80), true)
	h.addPod(api.Pod{Host: 2, Ip: four, Labels: 3})
	h.expectAdmits("as a peer", tcp(four, two, 80), true)
	h.expectAdmits("as a peer, by another port", tcp(four, two, 91), false)
	h.expectAdmits("under a policy, from a peer", tcp(one, four, 80), true)
	h.expectAdmits("under a policy, from no peer", tcp(three, four, 80), false)
	h.expectDecide("on its host", place{2, api.In}, tcp(three, four, 80), false)
	h.expectDecide("on another host", place{1, api.In}, tcp(three, four, 80), true)
	h.addPod(api.Pod{Host: 3, Ip: 0, Space: 3, Labels: 255})
	h.addPod(api.Pod{Host: 0, Ip: lastAddress, Labels: 1})
	h.expectAdmits("the last address", tcp(lastAddress, two, 80), true)
}

func TestAddPodToNothing(t *testing.T) {
	h := changingOf(t, api.Cluster{})
	h.addPod(api.Pod{})
	h.expectRefused("the same once more", h.x.AddPod(api.Pod{}), api.ErrPod)
	h.addPod(api.Pod{Ip: 1})
}

func TestAddPodUpToTheEighth(t *testing.T) {
	h := changingOf(t, api.Cluster{Policies: web().Policies})
	for i := range 8 {
		h.addPod(api.Pod{Host: i % 4, Ip: ip(10, 0, 0, i), Labels: i % 4})
	}
	ninths := map[string]api.Pod{
		"a right one": {Ip: 9}, "a wrong one": {Ip: -1}, "one with an address that there is": {Ip: one}, "one with all wrong": {Host: 4, Ip: 1 << 32, Space: 4, Labels: 256},
	}
	for name, p := range ninths {
		h.expectRefused("a ninth, "+name, h.x.AddPod(p), api.ErrMany)
	}
	h.dropPod(three)
	h.expectRefused("an eighth that is wrong", h.x.AddPod(api.Pod{Ip: -1}), api.ErrPod)
	h.expectRefused("an eighth with an address that there is", h.x.AddPod(api.Pod{Ip: one}), api.ErrPod)
	h.addPod(api.Pod{Ip: three, Host: 3, Labels: 2})
	for name, p := range ninths {
		h.expectRefused("a ninth again, "+name, h.x.AddPod(p), api.ErrMany)
	}
	full := changingOf(t, full())
	full.expectRefused("a ninth of a full cluster", full.x.AddPod(api.Pod{Ip: 9}), api.ErrMany)
}

func TestAddPodOfWrongPods(t *testing.T) {
	right := api.Pod{Host: 1, Ip: 9, Space: 1, Labels: 1}
	for name, y := range map[string]struct {
		of   func(p *api.Pod) *int
		high int
	}{
		"Host":   {func(p *api.Pod) *int { return &p.Host }, 3},
		"Ip":     {func(p *api.Pod) *int { return &p.Ip }, 1<<32 - 1},
		"Space":  {func(p *api.Pod) *int { return &p.Space }, 3},
		"Labels": {func(p *api.Pod) *int { return &p.Labels }, 255},
	} {
		h := changingOf(t, web())
		for _, value := range []int{-1, y.high + 1, -1 << 32, math.MinInt, math.MaxInt} {
			p := right
			*y.of(&p) = value
			h.expectRefused(name, h.x.AddPod(p), api.ErrPod)
		}
		for _, value := range []int{0, y.high} {
			p := right
			*y.of(&p) = value
			h.addPod(p)
			h.dropPod(p.Ip)
		}
		for _, p := range web().Pods {
			h.expectRefused("the same pod", h.x.AddPod(p), api.ErrPod)
			h.expectRefused("another pod with its address", h.x.AddPod(api.Pod{Host: 3 - p.Host, Ip: p.Ip, Space: 3}), api.ErrPod)
		}
	}
}

func TestDropPod(t *testing.T) {
	for _, first := range web().Pods {
		h := changingOf(t, web())
		h.dropPod(first.Ip)
		h.expectRefused("a pod that is gone", h.x.DropPod(first.Ip), api.ErrNone)
		for _, p := range slices.Clone(h.c.Pods) {
			h.dropPod(p.Ip)
		}
		h.expectRefused("a pod where there are none", h.x.DropPod(one), api.ErrNone)
		h.expectAdmits("without pods", tcp(three, two, 1), true)
	}
	h := changingOf(t, web())
	h.dropPod(two)
	h.expectAdmits("to what is no pod any more", tcp(stranger, two, 1), true)
	h.addPod(api.Pod{Ip: two, Labels: 2})
	h.expectAdmits("to a pod again", tcp(stranger, two, 1), false)
}

func TestDropPodOfNobody(t *testing.T) {
	for name, c := range map[string]api.Cluster{"the example": web(), "full": full(), "nothing": {}, "no pods": {Policies: full().Policies}} {
		h := changingOf(t, c)
		for _, ip := range []int{-1, 1, stranger, lastAddress, 1 << 32, 1<<32 + one, -one, math.MinInt, math.MaxInt} {
			h.expectRefused(name, h.x.DropPod(ip), api.ErrNone)
		}
	}
	h := changingOf(t, web())
	h.expectRefused("address 0, where it is no pod's", h.x.DropPod(0), api.ErrNone)
	h.addPod(api.Pod{})
	h.dropPod(0)
}

// Rows of other pods, on other hosts and by both ways, speak of a pod that comes and goes.
func TestPeersComeAndGo(t *testing.T) {
	rules := []api.Rule{{Peers: []api.Peer{{Kind: api.Pods, Selector: api.Selector{Need: 1}, Spaces: 3}}}}
	h := changingOf(t, api.Cluster{
		Pods:     []api.Pod{{Host: 0, Ip: one, Space: 2, Labels: 1}, {Host: 2, Ip: three, Labels: 1}},
		Policies: []api.Policy{{Space: 2, Ways: 3, Outs: rules, Ins: rules}},
	})
	expect := func(name string, want bool) {
		t.Helper()
		h.expectDecide(name, place{0, api.Out}, tcp(one, two, 1), want)
		h.expectDecide(name, place{0, api.In}, tcp(two, one, 1), want)
		h.expectAdmits(name, tcp(one, two, 1), want)
		h.expectAdmits(name, tcp(two, one, 1), want)
		h.expectAdmits(name+": the peer beside it", tcp(one, three, 1), true)
	}
	expect("no pod", false)
	for name, y := range map[string]struct {
		pod  api.Pod
		want bool
	}{
		"a peer":                 {api.Pod{Host: 1, Ip: two, Labels: 1}, true},
		"on another host":        {api.Pod{Host: 3, Ip: two, Labels: 1}, true},
		"of another space":       {api.Pod{Host: 1, Ip: two, Space: 1, Labels: 3}, true},
		"of a space not asked":   {api.Pod{Host: 1, Ip: two, Space: 3, Labels: 1}, false},
		"of the policy's, also":  {api.Pod{Host: 1, Ip: two, Space: 2, Labels: 1}, false},
		"without the label":      {api.Pod{Host: 1, Ip: two, Labels: 2}, false},
		"on the same host":       {api.Pod{Host: 0, Ip: two, Labels: 255}, true},
		"there, without a label": {api.Pod{Host: 0, Ip: two}, false},
	} {
		h.addPod(y.pod)
		expect(name, y.want)
		h.dropPod(two)
		expect(name+", gone", false)
	}
}

func TestPodComesBackOnAnotherHost(t *testing.T) {
	h := changingOf(t, web())
	held := tcp(stranger, two, 80)
	h.expectDecide("at first", place{1, api.In}, held, false)
	for _, host := range []int{3, 0, 2, 1} {
		h.dropPod(two)
		for other := range 4 {
			h.expectDecide("while it is gone", place{other, api.In}, held, true)
		}
		h.addPod(api.Pod{Host: host, Ip: two, Labels: 2})
		for other := range 4 {
			h.expectDecide("when it is back", place{other, api.In}, held, other != host)
		}
		h.expectAdmits("when it is back", held, false)
		h.expectAdmits("when it is back", tcp(one, two, 80), true)
	}
}

// opening lets its pods be talked to by one port.
func opening(port int) api.Policy {
	return api.Policy{Ways: api.In, Ins: []api.Rule{{Ports: []api.Port{{From: port, To: port}}}}}
}

func TestAddPolicy(t *testing.T) {
	h := changingOf(t, web())
	h.expectAdmits("ahead", tcp(one, three, 1), true)
	h.addPolicy(api.Policy{Selector: api.Selector{Need: 1}, Ways: api.Out})
	h.expectAdmits("a policy that closes", tcp(one, three, 1), false)
	h.expectAdmits("the other direction", tcp(three, one, 1), true)
	h.expectAdmits("another space", tcp(three, stranger, 1), true)
	h.addPolicy(api.Policy{Ways: api.Out, Outs: []api.Rule{{Peers: []api.Peer{{Kind: api.Pods, Spaces: 2}}}}})
	h.expectAdmits("a policy that opens", tcp(one, three, 1), true)
	h.expectAdmits("and closes", tcp(two, one, 1), false)
	h.addPod(api.Pod{Host: 3, Ip: four, Space: 1})
	h.expectAdmits("to a pod that came behind it", tcp(one, four, 1), true)
	h.addPolicy(api.Policy{Space: 1, Ways: api.In})
	h.expectAdmits("a policy of another space", tcp(one, three, 1), false)
}

func TestAddPolicyUpToTheFourth(t *testing.T) {
	h := changingOf(t, api.Cluster{Pods: web().Pods})
	for i := range 4 {
		h.addPolicy(opening(79 + i))
		for port := 79; port <= 82; port++ {
			h.expectAdmits("policies so far", tcp(stranger, one, port), port <= 79+i)
		}
	}
	fifths := map[string]api.Policy{"a right one": opening(91), "a wrong one": {}, "one of too many rules": {Ways: api.Out, Outs: make([]api.Rule, 3)}}
	for name, p := range fifths {
		h.expectRefused("a fifth, "+name, h.x.AddPolicy(p), api.ErrMany)
	}
	h.dropPolicy(2)
	h.expectRefused("a fourth that is wrong", h.x.AddPolicy(api.Policy{}), api.ErrPolicy)
	h.addPolicy(opening(91))
	h.expectAdmits("a fourth behind the others", tcp(stranger, one, 91), true)
	for name, p := range fifths {
		h.expectRefused("a fifth again, "+name, h.x.AddPolicy(p), api.ErrMany)
	}
	h.dropPolicy(3)
	h.expectAdmits("the fourth had the last number", tcp(stranger, one, 91), false)
}

// What else may be wrong with a policy is tried wherever Right is: see expectRight.
func TestAddPolicyOfWrongPolicies(t *testing.T) {
	peer := func(p api.Peer) api.Policy {
		return api.Policy{Ways: api.Out, Outs: []api.Rule{{Peers: []api.Peer{p}}}}
	}
	port := func(p api.Port) api.Policy {
		return api.Policy{Ways: api.In, Ins: []api.Rule{{}, {Ports: []api.Port{{}, p}}}}
	}
	wrong := map[string]api.Policy{
		"nothing": {}, "Ways 4": {Ways: 4}, "Space -1": {Ways: 1, Space: -1}, "Space 4": {Ways: 1, Space: 4},
		"Need 256": {Ways: 1, Selector: api.Selector{Need: 256}}, "Ban -1": {Ways: 1, Selector: api.Selector{Ban: -1}},
		"Ins without In": {Ways: 1, Ins: make([]api.Rule, 1)}, "Outs without Out": {Ways: 2, Outs: make([]api.Rule, 1)},
		"three Outs": {Ways: 3, Outs: make([]api.Rule, 3)}, "three Ins": {Ways: 3, Ins: make([]api.Rule, 3)},
		"three peers": {Ways: 1, Outs: []api.Rule{{Peers: slices.Repeat([]api.Peer{{Kind: api.Pods}}, 3)}}},
		"three ports": {Ways: 1, Outs: []api.Rule{{Ports: make([]api.Port, 3)}}},
		"no kind":     peer(api.Peer{}), "kind 3": peer(api.Peer{Kind: 3}), "Spaces 16": peer(api.Peer{Kind: api.Pods, Spaces: 16}),
		"pods with a block":   peer(api.Peer{Kind: api.Pods, Block: api.Block{Bits: 1}}),
		"pods with an except": peer(api.Peer{Kind: api.Pods, Excepts: make([]api.Block, 1)}),
		"blocks of spaces":    peer(api.Peer{Kind: api.Blocks, Spaces: 1}),
		"a block's bits":      peer(api.Peer{Kind: api.Blocks, Block: api.Block{Bits: 33}}),
		"a block's rest":      peer(api.Peer{Kind: api.Blocks, Block: api.Block{Base: 1, Bits: 31}}),
		"three excepts":       peer(api.Peer{Kind: api.Blocks, Excepts: make([]api.Block, 3)}),
		"Proto 3":             port(api.Port{Proto: 3}), "From above To": port(api.Port{From: 2, To: 1}), "To 65536": port(api.Port{To: 65536}),
	}
	for start, c := range map[string]api.Cluster{"the example": web(), "nothing": {}} {
		h := changingOf(t, c)
		for name, p := range wrong {
			h.expectRefused(start+", "+name, h.x.AddPolicy(p), api.ErrPolicy)
		}
	}
}

func TestDropPolicyFromAmongOthers(t *testing.T) {
	for gone := range 4 {
		h := changingOf(t, api.Cluster{Pods: web().Pods, Policies: []api.Policy{opening(79), opening(80), opening(81), opening(91)}})
		h.dropPolicy(gone)
		for i, port := range []int{79, 80, 81, 91} {
			h.expectAdmits("the others", tcp(stranger, one, port), i != gone)
		}
		h.expectRefused("the number that is free", h.x.DropPolicy(3), api.ErrNone)
	}
}

func TestDropPolicyMovesThoseBehind(t *testing.T) {
	h := changingOf(t, api.Cluster{Pods: web().Pods, Policies: []api.Policy{opening(79), opening(80), opening(81), opening(91)}})
	expect := func(ports ...int) {
		t.Helper()
		for _, port := range []int{79, 80, 81, 91} {
			h.expectAdmits("by what is left", tcp(stranger, one, port), len(ports) == 0 || slices.Contains(ports, port))
		}
	}
	h.dropPolicy(1)
	expect(79, 81, 91)
	h.dropPolicy(1)
	expect(79, 91)
	h.dropPolicy(0)
	expect(91)
	h.dropPolicy(0)
	expect()
	h.expectRefused("none is left", h.x.DropPolicy(0), api.ErrNone)
	h.addPolicy(opening(80))
	expect(80)
}

func TestDropPolicyOfWrongNumbers(t *testing.T) {
	for name, c := range map[string]api.Cluster{"the example": web(), "full": full(), "nothing": {}, "no policies": {Pods: full().Pods}} {
		h := changingOf(t, c)
		n := len(c.Policies)
		for _, i := range []int{-1, n, n + 1, -n, 4, 1 << 32, -1 << 32, math.MinInt, math.MaxInt} {
			if i != 0 || n == 0 {
				h.expectRefused(name, h.x.DropPolicy(i), api.ErrNone)
			}
		}
	}
}

// change does one thing to tables and cluster alike, or one that must be refused, and tells which error there must be.
func (m maker) change(h *changing) (name string, got, want api.Errno) {
	pods, policies := h.c.Pods, h.c.Policies
	switch m.IntN(4) {
	case 0:
		p := m.pod(4)
		p.Ip = m.base + m.IntN(32)
		isWrong := m.IntN(8) == 0
		if isWrong {
			p.Labels = 256
		}
		switch taken := slices.ContainsFunc(pods, func(q api.Pod) bool { return q.Ip == p.Ip }); {
		case len(pods) == 8:
			want = api.ErrMany
		case isWrong || taken:
			want = api.ErrPod
		default:
			h.c.Pods = append(slices.Clone(pods), p)
		}
		return "AddPod", h.x.AddPod(p), want
	case 1:
		ip := m.base + m.IntN(32)
		if len(pods) > 0 && m.IntN(2) == 0 {
			ip = pods[m.IntN(len(pods))].Ip
		}
		h.c.Pods = slices.DeleteFunc(slices.Clone(pods), func(q api.Pod) bool { return q.Ip == ip })
		if len(h.c.Pods) == len(pods) {
			want = api.ErrNone
		}
		return "DropPod", h.x.DropPod(ip), want
	case 2:
		p := m.policy()
		isWrong := m.IntN(8) == 0
		if isWrong {
			p.Space = 4
		}
		switch {
		case len(policies) == 4:
			want = api.ErrMany
		case isWrong:
			want = api.ErrPolicy
		default:
			h.c.Policies = append(slices.Clone(policies), p)
		}
		return "AddPolicy", h.x.AddPolicy(p), want
	}
	i := m.IntN(6) - 1
	if i < 0 || i >= len(policies) {
		want = api.ErrNone
	} else {
		h.c.Policies = slices.Delete(slices.Clone(policies), i, i+1)
	}
	return "DropPolicy", h.x.DropPolicy(i), want
}

func TestChangesAsTheModelSays(t *testing.T) {
	errors, answers := map[api.Errno]int{}, map[bool]int{}
	for _, m := range makers(8) {
		for range 60 {
			h := changingOf(t, m.cluster())
			for range 40 {
				name, got, want := m.change(h)
				if got != want {
					t.Errorf("P8: %s: error %d, want %d", name, got, want)
				}
				errors[want]++
				now := readOf(t, h.x, h.c)
				if !reflect.DeepEqual(now.rows, compiled(t, h.c).rows) {
					t.Errorf("P8: %s: the tables are not those of the cluster as it is", name)
				}
				for range 10 {
					p := m.packet(h.c)
					expectDecides(t, name, now, p)
					answers[modelAllowed(h.c, p)]++
				}
				if t.Failed() {
					t.Fatalf("behind %s, in %+v", name, h.c)
				}
			}
		}
	}
	for _, e := range []api.Errno{api.OK, api.ErrMany, api.ErrPod, api.ErrPolicy, api.ErrNone} {
		if errors[e] < 100 {
			t.Errorf("the changes try too little: %v", errors)
		}
	}
	if answers[true] < 10000 || answers[false] < 10000 {
		t.Errorf("the packets try too little: %v", answers)
	}
}
