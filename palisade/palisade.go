// Package palisade: who may talk to whom, in rows: see DOC.md.
package palisade

import (
	"slices"

	"palisade/api"
	"palisade/bound"
	"palisade/list"
	"palisade/packet"
	"palisade/pod"
	"palisade/policy"
	"palisade/table"
)

// Tables has the tables of all hosts, and the cluster that they are of: a change needs all of it, as what a peer has hangs on every pod.
type Tables struct {
	cluster api.Cluster
	rows    map[place][]api.Row
}

// place is where a table stands: there are none but those of places.
type place struct {
	host, way int
}

// Right tells whether a cluster is right (P3).
func Right(c api.Cluster) (api.Errno, int) {
	if len(c.Pods) > api.MaxPods || len(c.Policies) > api.MaxPolicies {
		return api.ErrMany, 0
	}
	for i, p := range c.Pods {
		if !pod.Right(p) || pod.Taken(c.Pods[:i], p.Ip) {
			return api.ErrPod, i
		}
	}
	for i, p := range c.Policies {
		if !policy.Right(p) {
			return api.ErrPolicy, i
		}
	}
	return api.OK, 0
}

// Allowed tells whether a packet is allowed (P4).
func Allowed(c api.Cluster, p api.Packet) (bool, api.Errno) {
	if e, _ := Right(c); e != api.OK {
		return false, e
	}
	if !packet.Right(p) {
		return false, api.ErrPacket
	}
	return mayGo(c, api.Out, p) && mayGo(c, api.In, p), api.OK
}

// mayGo is one judgement for both ways: they differ only in which end of the packet is asked.
func mayGo(c api.Cluster, way int, p api.Packet) bool {
	near, _ := packet.Ends(p, way)
	at, found := pod.At(c.Pods, near)
	if !found {
		return true
	}
	held := policy.Applying(c.Policies, way, at)
	return list.EmptyOrAny(held, func(q api.Policy) bool { return policy.LetsGo(q, way, c.Pods, p) })
}

// Compile makes the tables of a cluster (P5).
func Compile(c api.Cluster) (*Tables, api.Errno, int) {
	t := &Tables{}
	if e, at := t.become(c); e != api.OK {
		return nil, e, at
	}
	return t, api.OK, 0
}

// become makes everything anew, so that nothing is left of the cluster ahead; a cluster that is not right leaves all as it is. The lists handed in may be a caller's: what is kept is a copy.
func (t *Tables) become(c api.Cluster) (api.Errno, int) {
	if e, at := Right(c); e != api.OK {
		return e, at
	}
	t.cluster = api.Cluster{Pods: slices.Clone(c.Pods), Policies: list.Map(c.Policies, policy.Copy)}
	t.rows = map[place][]api.Row{}
	for _, at := range places() {
		t.rows[at] = table.Make(t.cluster, at.host, at.way)
	}
	return api.OK, 0
}

// places gives the keys in one order, so that no answer hangs on how a map is gone through.
func places() []place {
	var l []place
	for host := range api.Hosts {
		l = append(l, place{host, api.Out}, place{host, api.In})
	}
	return l
}

// Rows tells a table (P5).
func (t *Tables) Rows(host int, way int) ([]api.Row, api.Errno) {
	rows, found := t.rows[place{host, way}]
	if !found {
		return nil, api.ErrHost
	}
	return slices.Clone(rows), api.OK
}

// Decide tells what decides of a packet in a table (P6).
func (t *Tables) Decide(host int, way int, p api.Packet) (bool, int, api.Errno) {
	rows, found := t.rows[place{host, way}]
	if !found {
		return false, 0, api.ErrHost
	}
	if !packet.Right(p) {
		return false, 0, api.ErrPacket
	}
	allow, n := table.Decides(rows, p)
	return allow, n, api.OK
}

// Admits tells whether a packet is allowed (P7).
func (t *Tables) Admits(p api.Packet) (bool, api.Errno) {
	if !packet.Right(p) {
		return false, api.ErrPacket
	}
	return list.All(places(), func(at place) bool {
		allow, _ := table.Decides(t.rows[at], p)
		return allow
	}), api.OK
}

// follow is become for the changes, which tell no place.
func (t *Tables) follow(c api.Cluster) api.Errno {
	e, _ := t.become(c)
	return e
}

// AddPod adds a pod (P8). The cluster being right so far, the errors of Right are those of the pod, in their order.
func (t *Tables) AddPod(p api.Pod) api.Errno {
	c := t.cluster
	c.Pods = slices.Concat(c.Pods, []api.Pod{p})
	return t.follow(c)
}

// DropPod takes a pod away (P8).
func (t *Tables) DropPod(ip int) api.Errno {
	c := t.cluster
	if !pod.Taken(c.Pods, ip) {
		return api.ErrNone
	}
	c.Pods = list.Keep(c.Pods, func(p api.Pod) bool { return p.Ip != ip })
	return t.follow(c)
}

// AddPolicy adds a policy (P8). Its errors are those of Right, as AddPod's are.
func (t *Tables) AddPolicy(p api.Policy) api.Errno {
	c := t.cluster
	c.Policies = slices.Concat(c.Policies, []api.Policy{p})
	return t.follow(c)
}

// DropPolicy takes a policy away (P8).
func (t *Tables) DropPolicy(i int) api.Errno {
	c := t.cluster
	if !bound.Within(i, 0, len(c.Policies)-1) {
		return api.ErrNone
	}
	c.Policies = slices.Concat(c.Policies[:i], c.Policies[i+1:])
	return t.follow(c)
}
