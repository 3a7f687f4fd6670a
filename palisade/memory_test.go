package palisade

import (
	"math"
	"reflect"
	"slices"
	"testing"

	"palisade/api"
)

// roomy moves every list within a value to one with marked spare room behind it.
func roomy(v reflect.Value) {
	switch v.Kind() {
	case reflect.Struct:
		for i := range v.NumField() {
			roomy(v.Field(i))
		}
	case reflect.Slice:
		l := reflect.MakeSlice(v.Type(), v.Len()+2, v.Len()+2)
		reflect.Copy(l, v)
		for i := range l.Len() {
			if i >= v.Len() {
				mark(l.Index(i))
			}
			roomy(l.Index(i))
		}
		v.Set(l.Slice(0, v.Len()))
	}
}

func mark(v reflect.Value) {
	switch v.Kind() {
	case reflect.Int:
		v.SetInt(-77)
	case reflect.Struct:
		for i := range v.NumField() {
			mark(v.Field(i))
		}
	}
}

// whole copies a value with its lists stretched over their spare room.
func whole(v reflect.Value) reflect.Value {
	out := reflect.New(v.Type()).Elem()
	out.Set(v)
	switch v.Kind() {
	case reflect.Struct:
		for i := range v.NumField() {
			out.Field(i).Set(whole(v.Field(i)))
		}
	case reflect.Slice:
		long := v.Slice(0, v.Cap())
		l := reflect.MakeSlice(v.Type(), long.Len(), long.Len())
		for i := range long.Len() {
			l.Index(i).Set(whole(long.Index(i)))
		}
		out.Set(l)
	}
	return out
}

func TestNothingHandedInIsWritten(t *testing.T) {
	wrong := full()
	wrong.Policies[3].Ins[1].Ports[1].To = -1
	for name, c := range map[string]api.Cluster{"the example": web(), "full": full(), "wrong": wrong} {
		roomy(reflect.ValueOf(&c).Elem())
		before := whole(reflect.ValueOf(c)).Interface()
		firstErr, firstAt := Right(c)
		for _, p := range []api.Packet{tcp(one, two, 80), tcp(two, one, 1), {Src: -1}} {
			a, e := Allowed(c, p)
			if again, f := Allowed(c, p); again != a || f != e {
				t.Errorf("P2: %s: Allowed answers otherwise when asked again", name)
			}
		}
		if e, at := Right(c); e != firstErr || at != firstAt {
			t.Errorf("P2: %s: Right answers otherwise when asked again", name)
		}
		if x, e, _ := Compile(c); e == api.OK {
			readAndSpoil(x)
		}
		if !reflect.DeepEqual(before, whole(reflect.ValueOf(c)).Interface()) {
			t.Errorf("P2: %s: something handed in was written into", name)
		}
	}
}

// readAndSpoil asks tables all there is to ask, and writes over what they gave and its spare room.
func readAndSpoil(x *Tables) {
	for host := range api.Hosts {
		for _, way := range []int{api.Out, api.In} {
			x.Decide(host, way, tcp(one, two, 80))
			rows, _ := x.Rows(host, way)
			rows = rows[:cap(rows)]
			for i := range rows {
				rows[i] = api.Row{Proto: 9, Allow: i%2 == 0}
			}
		}
	}
	x.Admits(tcp(one, two, 80))
}

// expectSame asks tables again for what they told ahead.
func expectSame(t *testing.T, name string, x read) {
	t.Helper()
	for at, was := range x.rows {
		if rows, e := x.Rows(at.host, at.way); !slices.Equal(rows, was) || e != api.OK {
			t.Errorf("P2: %s: the rows of %v are others now", name, at)
		}
	}
	for _, p := range []api.Packet{tcp(one, two, 80), tcp(one, two, 91), tcp(stranger, two, 80), tcp(two, stranger, 1)} {
		expectDecides(t, name, x, p)
	}
}

func TestRowsAreTheCallersOwn(t *testing.T) {
	for name, c := range map[string]api.Cluster{"the example": web(), "full": full(), "nothing": {}} {
		x := compiled(t, c)
		readAndSpoil(x.Tables)
		expectSame(t, name, x)
		again, _ := x.Rows(1, api.In)
		was := slices.Clone(again)
		readAndSpoil(x.Tables)
		if !slices.Equal(again, was) {
			t.Errorf("P2: %s: two lists of rows share memory", name)
		}
	}
}

func TestTablesKeepNothingHandedIn(t *testing.T) {
	for name, fresh := range map[string]func() api.Cluster{"the example": web, "full": full} {
		c := fresh()
		roomy(reflect.ValueOf(&c).Elem())
		x := compiled(t, c)
		x.c = fresh()
		setAll(reflect.ValueOf(&c).Elem(), 3)
		expectSame(t, name, x)
	}
}

func TestTablesHaveNothingToDoWithOneAnother(t *testing.T) {
	c := web()
	x, y := compiled(t, c), compiled(t, c)
	c.Policies[0].Ins[0].Peers[0].Spaces = 3
	z := compiled(t, c)
	x.c, y.c = web(), web()
	readAndSpoil(x.Tables)
	expectSame(t, "the first", x)
	expectSame(t, "one of the same cluster", y)
	expectSame(t, "one of another cluster", z)
	if a, _ := x.Admits(tcp(three, two, 80)); a {
		t.Errorf("P2: tables follow another cluster's policies")
	}
	if a, _ := z.Admits(tcp(three, two, 80)); !a {
		t.Errorf("P2: tables follow another cluster's policies")
	}
}

// changeAll lets each of the four changes be refused, and makes each, to the cluster beside the tables too.
func changeAll(x *Tables, c *api.Cluster, p api.Policy) {
	nine := api.Pod{Host: 2, Ip: 9, Labels: 5}
	x.AddPod(api.Pod{Ip: -1})
	x.DropPod(-1)
	x.AddPolicy(api.Policy{Ways: 4, Outs: p.Outs, Ins: p.Ins})
	x.DropPolicy(-1)
	x.DropPod(c.Pods[1].Ip)
	x.DropPolicy(0)
	x.AddPolicy(p)
	x.AddPod(nine)
	c.Pods = slices.Concat(c.Pods[:1], c.Pods[2:], []api.Pod{nine})
	c.Policies = slices.Concat(c.Policies[1:], []api.Policy{p})
}

func bothWays() api.Policy {
	return api.Policy{Ways: 3, Outs: []api.Rule{fullRule(), fullRule()}, Ins: []api.Rule{fullRule(), fullRule()}}
}

func TestChangesWriteNothingHandedIn(t *testing.T) {
	for name, c := range map[string]api.Cluster{"the example": web(), "full": full()} {
		p := bothWays()
		roomy(reflect.ValueOf(&c).Elem())
		roomy(reflect.ValueOf(&p).Elem())
		cluster, policy := whole(reflect.ValueOf(c)).Interface(), whole(reflect.ValueOf(p)).Interface()
		x, copied := compiled(t, c), c
		changeAll(x.Tables, &copied, p)
		if e := x.AddPolicy(p); name == "full" && e != api.ErrMany || name != "full" && e != api.OK {
			t.Errorf("P8: %s: AddPolicy = %d", name, e)
		}
		x.DropPolicy(0)
		if !reflect.DeepEqual(cluster, whole(reflect.ValueOf(c)).Interface()) {
			t.Errorf("P2: %s: the cluster handed in was written into", name)
		}
		if !reflect.DeepEqual(policy, whole(reflect.ValueOf(p)).Interface()) {
			t.Errorf("P2: %s: the policy handed in was written into", name)
		}
	}
}

// A change makes the tables anew: it must not find what the caller has written into his lists since.
func TestChangesKeepNothingHandedIn(t *testing.T) {
	for name, fresh := range map[string]func() api.Cluster{"the example": web, "full": full} {
		c, p := fresh(), bothWays()
		roomy(reflect.ValueOf(&c).Elem())
		roomy(reflect.ValueOf(&p).Elem())
		h := changing{t, compiled(t, c).Tables, fresh()}
		setAll(reflect.ValueOf(&c).Elem(), 3)
		h.dropPod(fresh().Pods[0].Ip)
		h.dropPolicy(0)
		if e := h.x.AddPolicy(p); e != api.OK {
			t.Errorf("P8: %s: AddPolicy = %d", name, e)
		}
		h.c.Policies = append(h.c.Policies, bothWays())
		setAll(reflect.ValueOf(&p).Elem(), 3)
		h.expectOf(name)
		h.addPod(api.Pod{Host: 2, Ip: 9, Labels: 5})
		h.dropPod(9)
	}
}

func TestChangesLeaveRowsToTheirCaller(t *testing.T) {
	for name, c := range map[string]api.Cluster{"the example": web(), "full": full()} {
		x := compiled(t, c)
		was := map[place][]api.Row{}
		for at, rows := range x.rows {
			was[at] = slices.Clone(rows)
		}
		changeAll(x.Tables, &c, bothWays())
		if !reflect.DeepEqual(x.rows, was) {
			t.Errorf("P2: %s: a change wrote into rows that were given ahead of it", name)
		}
		h := changing{t, x.Tables, c}
		h.expectOf(name)
		readAndSpoil(x.Tables)
		h.dropPod(9)
		h.expectOf(name)
	}
}

func TestChangesOfOneTablesOnly(t *testing.T) {
	for name, c := range map[string]api.Cluster{"the example": web(), "full": full()} {
		roomy(reflect.ValueOf(&c).Elem())
		p := bothWays()
		x, y, z := changing{t, compiled(t, c).Tables, c}, changing{t, compiled(t, c).Tables, c}, changing{t, compiled(t, c).Tables, c}
		changeAll(x.x, &x.c, p)
		z.expectOf(name + ": while another changes")
		changeAll(y.x, &y.c, p)
		x.dropPod(9)
		x.dropPolicy(0)
		x.expectOf(name + ": the first")
		y.expectOf(name + ": the second")
		z.expectOf(name + ": one that nobody changes")
	}
}

// setAll puts one number everywhere, so that every shift and index of the program meets it.
func setAll(v reflect.Value, n int) {
	switch v.Kind() {
	case reflect.Int:
		v.SetInt(int64(n))
	case reflect.Struct:
		for i := range v.NumField() {
			setAll(v.Field(i), n)
		}
	case reflect.Slice:
		for i := range v.Len() {
			setAll(v.Index(i), n)
		}
	}
}

func TestNoNumberPanics(t *testing.T) {
	for _, n := range []int{math.MinInt, -1 << 32, -65, -1, 33, 64, 1 << 32, math.MaxInt} {
		c, pods, packet := full(), full().Pods, api.Packet{}
		setAll(reflect.ValueOf(&c).Elem(), n)
		setAll(reflect.ValueOf(&packet).Elem(), n)
		if e, at := Right(c); e != api.ErrPod || at != 0 {
			t.Errorf("P1: all %d: Right = %d, %d", n, e, at)
		}
		c.Pods = pods
		if e, at := Right(c); e != api.ErrPolicy || at != 0 {
			t.Errorf("P1: all policies %d: Right = %d, %d", n, e, at)
		}
		if a, e := Allowed(c, packet); a || e != api.ErrPolicy {
			t.Errorf("P1: all policies %d: Allowed = %v, %d", n, a, e)
		}
		if a, e := Allowed(full(), packet); a || e != api.ErrPacket {
			t.Errorf("P1: all of the packet %d: Allowed = %v, %d", n, a, e)
		}
		if x, e, at := Compile(c); x != nil || e != api.ErrPolicy || at != 0 {
			t.Errorf("P1: all policies %d: Compile = %p, %d, %d", n, x, e, at)
		}
		x := compiled(t, full())
		if rows, e := x.Rows(n, n); rows != nil || e != api.ErrHost {
			t.Errorf("P1: Rows(%d, %d) = %v, %d", n, n, rows, e)
		}
		if d, number, e := x.Decide(n, n, packet); d || number != 0 || e != api.ErrHost {
			t.Errorf("P1: all %d: Decide = %v, %d, %d", n, d, number, e)
		}
		if a, e := x.Admits(packet); a || e != api.ErrPacket {
			t.Errorf("P1: all of the packet %d: Admits = %v, %d", n, a, e)
		}
		expectNumbersRefused(t, n)
	}
}

func expectNumbersRefused(t *testing.T, n int) {
	t.Helper()
	h := changingOf(t, web())
	p, q := api.Pod{}, bothWays()
	setAll(reflect.ValueOf(&p).Elem(), n)
	setAll(reflect.ValueOf(&q).Elem(), n)
	h.expectRefused("a pod of one number", h.x.AddPod(p), api.ErrPod)
	h.expectRefused("a policy of one number", h.x.AddPolicy(q), api.ErrPolicy)
	h.expectRefused("nobody", h.x.DropPod(n), api.ErrNone)
	h.expectRefused("no policy", h.x.DropPolicy(n), api.ErrNone)
}
