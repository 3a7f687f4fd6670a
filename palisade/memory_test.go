package palisade

import (
	"math"
	"reflect"
	"testing"

	"palisade/api"
)

// roomy moves every list within a value to one with marked spare room behind it.
func roomy(v reflect.Value) {
	switch v.Kind() {
	case reflect.Struct:
		for i := range v.NumField() {
			roomy(v.Field(i))
		}
	case reflect.Slice:
		l := reflect.MakeSlice(v.Type(), v.Len()+2, v.Len()+2)
		reflect.Copy(l, v)
		for i := range l.Len() {
			if i >= v.Len() {
				mark(l.Index(i))
			}
			roomy(l.Index(i))
		}
		v.Set(l.Slice(0, v.Len()))
	}
}

func mark(v reflect.Value) {
	switch v.Kind() {
	case reflect.Int:
		v.SetInt(-77)
	case reflect.Struct:
		for i := range v.NumField() {
			mark(v.Field(i))
		}
	}
}

// whole copies a value with its lists stretched over their spare room.
func whole(v reflect.Value) reflect.Value {
	out := reflect.New(v.Type()).Elem()
	out.Set(v)
	switch v.Kind() {
	case reflect.Struct:
		for i := range v.NumField() {
			out.Field(i).Set(whole(v.Field(i)))
		}
	case reflect.Slice:
		long := v.Slice(0, v.Cap())
		l := reflect.MakeSlice(v.Type(), long.Len(), long.Len())
		for i := range long.Len() {
			l.Index(i).Set(whole(long.Index(i)))
		}
		out.Set(l)
	}
	return out
}

func TestNothingHandedInIsWritten(t *testing.T) {
	wrong := full()
	wrong.Policies[3].Ins[1].Ports[1].To = -1
	for name, c := range map[string]api.Cluster{"the example": web(), "full": full(), "wrong": wrong} {
		roomy(reflect.ValueOf(&c).Elem())
		before := whole(reflect.ValueOf(c)).Interface()
		firstErr, firstAt := Right(c)
		for _, p := range []api.Packet{tcp(one, two, 80), tcp(two, one, 1), {Src: -1}} {
			a, e := Allowed(c, p)
			if again, f := Allowed(c, p); again != a || f != e {
				t.Errorf("P2: %s: Allowed answers otherwise when asked again", name)
			}
		}
		if e, at := Right(c); e != firstErr || at != firstAt {
			t.Errorf("P2: %s: Right answers otherwise when asked again", name)
		}
		if !reflect.DeepEqual(before, whole(reflect.ValueOf(c)).Interface()) {
			t.Errorf("P2: %s: something handed in was written into", name)
		}
	}
}

// setAll puts one number everywhere, so that every shift and index of the program meets it.
func setAll(v reflect.Value, n int) {
	switch v.Kind() {
	case reflect.Int:
		v.SetInt(int64(n))
	case reflect.Struct:
		for i := range v.NumField() {
			setAll(v.Field(i), n)
		}
	case reflect.Slice:
		for i := range v.Len() {
			setAll(v.Index(i), n)
		}
	}
}

func TestNoNumberPanics(t *testing.T) {
	for _, n := range []int{math.MinInt, -1 << 32, -65, -1, 33, 64, 1 << 32, math.MaxInt} {
		c, pods, packet := full(), full().Pods, api.Packet{}
		setAll(reflect.ValueOf(&c).Elem(), n)
		setAll(reflect.ValueOf(&packet).Elem(), n)
		if e, at := Right(c); e != api.ErrPod || at != 0 {
			t.Errorf("P1: all %d: Right = %d, %d", n, e, at)
		}
		c.Pods = pods
		if e, at := Right(c); e != api.ErrPolicy || at != 0 {
			t.Errorf("P1: all policies %d: Right = %d, %d", n, e, at)
		}
		if a, e := Allowed(c, packet); a || e != api.ErrPolicy {
			t.Errorf("P1: all policies %d: Allowed = %v, %d", n, a, e)
		}
		if a, e := Allowed(full(), packet); a || e != api.ErrPacket {
			t.Errorf("P1: all of the packet %d: Allowed = %v, %d", n, a, e)
		}
	}
}
