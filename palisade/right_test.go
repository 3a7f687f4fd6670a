package palisade

import (
	"math"
	"reflect"
	"testing"

	"palisade/api"
)

func expectRight(t *testing.T, name string, c api.Cluster, want api.Errno, place int) {
	t.Helper()
	if e, at := Right(c); e != want || at != place {
		t.Errorf("P3: %s: Right = %d, %d, want %d, %d", name, e, at, want, place)
	}
	if x, e, at := Compile(c); e != want || at != place || (x != nil) != (want == api.OK) {
		t.Errorf("P5: %s: Compile = %p, %d, %d, want %d, %d", name, x, e, at, want, place)
	}
	expectAdded(t, name, c, want, place)
	if want == api.OK {
		return
	}
	if a, e := Allowed(c, api.Packet{Proto: api.Tcp}); a || e != want {
		t.Errorf("P4: %s: Allowed = %v, %d, want false, %d", name, a, e, want)
	}
}

// expectAdded comes to a cluster step by step, as far as it is right.
func expectAdded(t *testing.T, name string, c api.Cluster, want api.Errno, place int) {
	t.Helper()
	pods, policies := c.Pods, c.Policies
	switch want {
	case api.ErrMany:
		return
	case api.ErrPod:
		pods, policies = pods[:place], nil
	case api.ErrPolicy:
		policies = policies[:place]
	}
	x := compiled(t, api.Cluster{})
	for i, p := range pods {
		if e := x.AddPod(p); e != api.OK {
			t.Errorf("P8: %s: AddPod of pod %d = %d", name, i, e)
		}
	}
	for i, p := range policies {
		if e := x.AddPolicy(p); e != api.OK {
			t.Errorf("P8: %s: AddPolicy of policy %d = %d", name, i, e)
		}
	}
	if want == api.ErrPod {
		if e := x.AddPod(c.Pods[place]); e != want {
			t.Errorf("P8: %s: AddPod = %d, want ErrPod", name, e)
		}
	}
	if want == api.ErrPolicy {
		if e := x.AddPolicy(c.Policies[place]); e != want {
			t.Errorf("P8: %s: AddPolicy = %d, want ErrPolicy", name, e)
		}
	}
	so := api.Cluster{Pods: pods, Policies: policies}
	if !reflect.DeepEqual(readOf(t, x.Tables, so).rows, compiled(t, so).rows) {
		t.Errorf("P8: %s: the tables are not those of the cluster as it is", name)
	}
}

func TestRightOfRightClusters(t *testing.T) {
	expectRight(t, "nothing", api.Cluster{}, api.OK, 0)
	expectRight(t, "empty lists", api.Cluster{Pods: []api.Pod{}, Policies: []api.Policy{}}, api.OK, 0)
	expectRight(t, "the example", web(), api.OK, 0)
	expectRight(t, "a full cluster", full(), api.OK, 0)
	expectRight(t, "empty lists within", api.Cluster{Policies: []api.Policy{
		{Ways: api.Out, Outs: []api.Rule{{Peers: []api.Peer{}, Ports: []api.Port{}}}, Ins: []api.Rule{}},
		{Ways: api.In, Outs: []api.Rule{}, Ins: []api.Rule{{Peers: []api.Peer{{Kind: api.Pods, Excepts: []api.Block{}}}}}},
	}}, api.OK, 0)
}

// number is one that a cluster has, with the bounds it keeps while the rest stays as it is.
type number struct {
	name      string
	of        func(c *api.Cluster) *int
	low, high int
}

// expectBounds tries a number of a full cluster at, inside and outside its bounds.
func expectBounds(t *testing.T, n number, wrong api.Errno, place int) {
	t.Helper()
	for _, x := range []struct {
		value int
		want  api.Errno
	}{
		{n.low, api.OK}, {n.high, api.OK}, {n.low - 1, wrong}, {n.high + 1, wrong}, {-1 << 32, wrong}, {math.MinInt, wrong}, {math.MaxInt, wrong},
	} {
		c := full()
		*n.of(&c) = x.value
		at := place
		if x.want == api.OK {
			at = 0
		}
		expectRight(t, n.name, c, x.want, at)
	}
}

func TestRightOfPods(t *testing.T) {
	for i := range api.MaxPods {
		for _, n := range []number{
			{"Host", func(c *api.Cluster) *int { return &c.Pods[i].Host }, 0, 3},
			{"Ip", func(c *api.Cluster) *int { return &c.Pods[i].Ip }, 0, 1<<32 - 1},
			{"Space", func(c *api.Cluster) *int { return &c.Pods[i].Space }, 0, 3},
			{"Labels", func(c *api.Cluster) *int { return &c.Pods[i].Labels }, 0, 255},
		} {
			expectBounds(t, n, api.ErrPod, i)
		}
	}
}

func TestRightOfSharedAddresses(t *testing.T) {
	for i := range api.MaxPods {
		for j := range i {
			c := full()
			c.Pods[i].Ip = c.Pods[j].Ip
			expectRight(t, "a shared address", c, api.ErrPod, i)
		}
	}
}

func TestRightOfPolicies(t *testing.T) {
	for i := range api.MaxPolicies {
		for _, n := range []number{
			{"Space", func(c *api.Cluster) *int { return &c.Policies[i].Space }, 0, 3},
			{"Need", func(c *api.Cluster) *int { return &c.Policies[i].Selector.Need }, 0, 255},
			{"Ban", func(c *api.Cluster) *int { return &c.Policies[i].Selector.Ban }, 0, 255},
			{"Ways", func(c *api.Cluster) *int { return &c.Policies[i].Ways }, 3, 3},
		} {
			expectBounds(t, n, api.ErrPolicy, i)
		}
	}
}

// everyRule gives a rule of each policy, way and number.
func everyRule(visit func(policy int, rule func(c *api.Cluster) *api.Rule)) {
	for i := range api.MaxPolicies {
		for j := range api.MaxEach {
			visit(i, func(c *api.Cluster) *api.Rule { return &c.Policies[i].Outs[j] })
			visit(i, func(c *api.Cluster) *api.Rule { return &c.Policies[i].Ins[j] })
		}
	}
}

func TestRightOfRules(t *testing.T) {
	everyRule(func(policy int, rule func(c *api.Cluster) *api.Rule) {
		pods := func(c *api.Cluster) *api.Peer { return &rule(c).Peers[0] }
		blocks := func(c *api.Cluster) *api.Peer { return &rule(c).Peers[1] }
		narrow := func(c *api.Cluster) *int { blocks(c).Block.Bits = 32; return &blocks(c).Block.Base }
		except := func(i int) func(c *api.Cluster) *int {
			return func(c *api.Cluster) *int {
				blocks(c).Excepts[i].Bits = 32
				return &blocks(c).Excepts[i].Base
			}
		}
		whole := func(c *api.Cluster) *int { blocks(c).Block.Base = 0; return &blocks(c).Block.Bits }
		for _, n := range []number{
			{"Kind of pods", func(c *api.Cluster) *int { return &pods(c).Kind }, 1, 1},
			{"Need of pods", func(c *api.Cluster) *int { return &pods(c).Selector.Need }, 0, 255},
			{"Ban of pods", func(c *api.Cluster) *int { return &pods(c).Selector.Ban }, 0, 255},
			{"Spaces of pods", func(c *api.Cluster) *int { return &pods(c).Spaces }, 0, 15},
			{"Base of pods", func(c *api.Cluster) *int { return &pods(c).Block.Base }, 0, 0},
			{"Bits of pods", func(c *api.Cluster) *int { return &pods(c).Block.Bits }, 0, 0},
			{"Kind of blocks", func(c *api.Cluster) *int { return &blocks(c).Kind }, 2, 2},
			{"Need of blocks", func(c *api.Cluster) *int { return &blocks(c).Selector.Need }, 0, 0},
			{"Ban of blocks", func(c *api.Cluster) *int { return &blocks(c).Selector.Ban }, 0, 0},
			{"Spaces of blocks", func(c *api.Cluster) *int { return &blocks(c).Spaces }, 0, 0},
			{"Base of blocks", narrow, 0, 1<<32 - 1},
			{"Bits of blocks", whole, 0, 32},
			{"Base of an except", except(0), 0, 1<<32 - 1},
			{"Base of the other except", except(1), 0, 1<<32 - 1},
			{"Bits of an except", func(c *api.Cluster) *int { return &blocks(c).Excepts[0].Bits }, 16, 32},
			{"Bits of the other except", func(c *api.Cluster) *int { return &blocks(c).Excepts[1].Bits }, 23, 32},
			{"Proto", func(c *api.Cluster) *int { return &rule(c).Ports[0].Proto }, 0, 2},
			{"From", func(c *api.Cluster) *int { return &rule(c).Ports[0].From }, 0, 90},
			{"To", func(c *api.Cluster) *int { return &rule(c).Ports[0].To }, 80, 65535},
			{"the other Proto", func(c *api.Cluster) *int { return &rule(c).Ports[1].Proto }, 0, 2},
			{"the other From", func(c *api.Cluster) *int { return &rule(c).Ports[1].From }, 0, 65535},
			{"the other To", func(c *api.Cluster) *int { return &rule(c).Ports[1].To }, 0, 65535},
		} {
			expectBounds(t, n, api.ErrPolicy, policy)
		}
	})
}

func TestRightOfBlocksWithOtherBits(t *testing.T) {
	everyRule(func(policy int, rule func(c *api.Cluster) *api.Rule) {
		for _, base := range []int{ip(10, 0, 0, 1), ip(10, 128, 0, 0), ip(10, 1, 0, 0)} {
			c := full()
			rule(&c).Peers[1].Block.Base = base
			expectRight(t, "other bits of a block", c, api.ErrPolicy, policy)
		}
		for i := range api.MaxEach {
			c := full()
			rule(&c).Peers[1].Excepts[i].Base++
			expectRight(t, "other bits of an except", c, api.ErrPolicy, policy)
		}
	})
}

func TestRightOfLongLists(t *testing.T) {
	everyRule(func(policy int, rule func(c *api.Cluster) *api.Rule) {
		for name, lengthen := range map[string]func(c *api.Cluster){
			"three peers": func(c *api.Cluster) { rule(c).Peers = append(rule(c).Peers, api.Peer{Kind: api.Pods}) },
			"three ports": func(c *api.Cluster) { rule(c).Ports = append(rule(c).Ports, api.Port{}) },
			"three excepts": func(c *api.Cluster) {
				rule(c).Peers[1].Excepts = append(rule(c).Peers[1].Excepts, api.Block{})
			},
			"an except of pods": func(c *api.Cluster) { rule(c).Peers[0].Excepts = []api.Block{{}} },
			"three Outs":        func(c *api.Cluster) { c.Policies[policy].Outs = make([]api.Rule, 3) },
			"three Ins":         func(c *api.Cluster) { c.Policies[policy].Ins = make([]api.Rule, 3) },
		} {
			c := full()
			lengthen(&c)
			expectRight(t, name, c, api.ErrPolicy, policy)
		}
	})
}

func TestRightOfRulesWithoutTheirWay(t *testing.T) {
	for _, x := range []struct {
		ways, outs, ins int
		want            api.Errno
	}{
		{api.Out, 0, 0, api.OK}, {api.Out, 2, 0, api.OK}, {api.Out, 0, 1, api.ErrPolicy}, {api.Out, 2, 1, api.ErrPolicy}, {api.Out, 3, 0, api.ErrPolicy},
		{api.In, 0, 0, api.OK}, {api.In, 0, 2, api.OK}, {api.In, 1, 0, api.ErrPolicy}, {api.In, 1, 2, api.ErrPolicy}, {api.In, 0, 3, api.ErrPolicy},
		{3, 0, 0, api.OK}, {3, 2, 0, api.OK}, {3, 0, 2, api.OK}, {3, 2, 2, api.OK}, {3, 3, 0, api.ErrPolicy}, {3, 0, 3, api.ErrPolicy},
		{0, 0, 0, api.ErrPolicy}, {4, 0, 0, api.ErrPolicy}, {-1, 0, 0, api.ErrPolicy}, {5, 1, 0, api.ErrPolicy},
	} {
		c := api.Cluster{Policies: []api.Policy{{Ways: x.ways, Outs: make([]api.Rule, x.outs), Ins: make([]api.Rule, x.ins)}}}
		expectRight(t, "rules by ways", c, x.want, 0)
	}
}

func TestRightTellsTheFirstError(t *testing.T) {
	wrongPod, wrongPolicy := api.Pod{Host: -1}, api.Policy{}
	for _, x := range []struct {
		name  string
		f     func(c *api.Cluster)
		want  api.Errno
		place int
	}{
		{"nine pods", func(c *api.Cluster) { c.Pods = append(c.Pods, api.Pod{Ip: 9}) }, api.ErrMany, 0},
		{"five policies", func(c *api.Cluster) { c.Policies = append(c.Policies, c.Policies[0]) }, api.ErrMany, 0},
		{"nine pods, the ninth wrong", func(c *api.Cluster) { c.Pods = append(c.Pods, wrongPod) }, api.ErrMany, 0},
		{"nine pods, a policy wrong", func(c *api.Cluster) { c.Pods = append(c.Pods, api.Pod{Ip: 9}); c.Policies[1] = wrongPolicy }, api.ErrMany, 0},
		{"five policies, a pod wrong", func(c *api.Cluster) { c.Policies = append(c.Policies, wrongPolicy); c.Pods[3] = wrongPod }, api.ErrMany, 0},
		{"a pod and a policy", func(c *api.Cluster) { c.Pods[7] = wrongPod; c.Policies[0] = wrongPolicy }, api.ErrPod, 7},
		{"two pods", func(c *api.Cluster) { c.Pods[6] = wrongPod; c.Pods[2] = wrongPod }, api.ErrPod, 2},
		{"a shared address ahead of a wrong pod", func(c *api.Cluster) { c.Pods[1].Ip = c.Pods[0].Ip; c.Pods[2] = wrongPod }, api.ErrPod, 1},
		{"a wrong pod ahead of a shared address", func(c *api.Cluster) { c.Pods[0] = wrongPod; c.Pods[4].Ip = c.Pods[3].Ip }, api.ErrPod, 0},
		{"two policies", func(c *api.Cluster) { c.Policies[3] = wrongPolicy; c.Policies[2] = wrongPolicy }, api.ErrPolicy, 2},
	} {
		c := full()
		x.f(&c)
		expectRight(t, x.name, c, x.want, x.place)
	}
}
