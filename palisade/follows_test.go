package palisade

import (
	"slices"
	"testing"

	"palisade/api"
)

// shuffled gives a cluster with every list of it in another order, and none of its memory.
func (m maker) shuffled(c api.Cluster) api.Cluster {
	return api.Cluster{Pods: shuffle(m, c.Pods, nil), Policies: shuffle(m, c.Policies, m.shuffledPolicy)}
}

func (m maker) shuffledPolicy(p api.Policy) api.Policy {
	p.Outs, p.Ins = shuffle(m, p.Outs, m.shuffledRule), shuffle(m, p.Ins, m.shuffledRule)
	return p
}

func (m maker) shuffledRule(r api.Rule) api.Rule {
	return api.Rule{Ports: shuffle(m, r.Ports, nil), Peers: shuffle(m, r.Peers, func(p api.Peer) api.Peer {
		p.Excepts = shuffle(m, p.Excepts, nil)
		return p
	})}
}

func shuffle[T any](m maker, l []T, within func(T) T) []T {
	out := slices.Clone(l)
	for i := range out {
		if within != nil {
			out[i] = within(out[i])
		}
	}
	m.Shuffle(len(out), func(i, j int) { out[i], out[j] = out[j], out[i] })
	return out
}

func admits(t *testing.T, x *Tables, p api.Packet) bool {
	t.Helper()
	a, e := x.Admits(p)
	if e != api.OK {
		t.Errorf("P7: Admits(%+v): error %d", p, e)
	}
	return a
}

func TestOrderIsOfNoMatter(t *testing.T) {
	for _, m := range makers(9) {
		for range 300 {
			c := m.cluster()
			d := m.shuffled(c)
			x, y := compiled(t, c), compiled(t, d)
			for range 30 {
				p := m.packet(c)
				a, _ := Allowed(c, p)
				if b, e := Allowed(d, p); b != a || e != api.OK {
					t.Fatalf("P9: Allowed hangs on an order: %+v, %+v", c, d)
				}
				if admits(t, x.Tables, p) != a || admits(t, y.Tables, p) != a {
					t.Fatalf("P9: Admits hangs on an order: %+v, %+v", c, d)
				}
			}
		}
	}
}

// moreRules gives a policy with one rule more for each of its ways, where there is room.
func (m maker) moreRules(p api.Policy) api.Policy {
	if p.Ways != api.In && len(p.Outs) < 2 {
		p.Outs = append([]api.Rule{m.rule()}, p.Outs...)
	}
	if p.Ways != api.Out && len(p.Ins) < 2 {
		p.Ins = append(slices.Clone(p.Ins), m.rule())
	}
	return p
}

func TestARuleMoreForbidsNothing(t *testing.T) {
	more := 0
	for _, m := range makers(10) {
		for range 400 {
			c := m.cluster()
			x := compiled(t, c)
			for range len(c.Policies) {
				x.DropPolicy(0)
			}
			was := compiled(t, c)
			for _, p := range c.Policies {
				x.AddPolicy(m.moreRules(p))
			}
			for range 30 {
				p := m.packet(c)
				ahead, now := admits(t, was.Tables, p), admits(t, x.Tables, p)
				if ahead && !now {
					t.Fatalf("P9: a rule more forbids %+v in %+v", p, c)
				}
				if now && !ahead {
					more++
				}
			}
		}
	}
	if more < 100 {
		t.Errorf("the rules open too little: %d", more)
	}
}

// heldBy tells whether some policy applies to a pod.
func heldBy(l []api.Policy, way int, q api.Pod) bool {
	return slices.ContainsFunc(l, func(p api.Policy) bool {
		return p.Space == q.Space && modelSelects(p.Selector, q.Labels) && (p.Ways == way || p.Ways == 3)
	})
}

func TestAPolicyMoreAllowsWhatItsRulesSay(t *testing.T) {
	opened := 0
	for _, m := range makers(11) {
		for range 400 {
			c := m.cluster()
			c.Policies = c.Policies[:min(3, len(c.Policies))]
			x, was, more := compiled(t, c), compiled(t, c), m.policy()
			x.AddPolicy(more)
			for range 30 {
				p := m.packet(c)
				for at := range x.rows {
					ahead, _, _ := was.Decide(at.host, at.way, p)
					now, _, _ := x.Decide(at.host, at.way, p)
					if ahead || !now {
						continue
					}
					opened++
					near := slices.IndexFunc(c.Pods, func(q api.Pod) bool { return at.way == api.Out && q.Ip == p.Src || at.way == api.In && q.Ip == p.Dst })
					alone := api.Cluster{Pods: c.Pods, Policies: []api.Policy{more}}
					if !heldBy(alone.Policies, at.way, c.Pods[near]) || !modelGoes(alone, c.Pods[near], at.way, p) {
						t.Fatalf("P9: with %+v more %+v goes in %+v", more, p, c)
					}
				}
			}
		}
	}
	if opened < 100 {
		t.Errorf("the policies open too little: %d", opened)
	}
}

func TestAllIsAllowedWhereNoPolicyApplies(t *testing.T) {
	for _, m := range makers(12) {
		for range 400 {
			c := m.cluster()
			x := compiled(t, c)
			for range 30 {
				p := m.packet(c)
				free := !slices.ContainsFunc(c.Pods, func(q api.Pod) bool {
					return q.Ip == p.Src && heldBy(c.Policies, api.Out, q) || q.Ip == p.Dst && heldBy(c.Policies, api.In, q)
				})
				if a, _ := Allowed(c, p); free && !(a && admits(t, x.Tables, p)) {
					t.Fatalf("P9: no policy applies to %+v in %+v", p, c)
				}
			}
			for range len(c.Policies) {
				x.DropPolicy(0)
			}
			if p := m.packet(c); !admits(t, x.Tables, p) {
				t.Fatalf("P9: without policies %+v is not allowed in %+v", p, c)
			}
		}
	}
}
