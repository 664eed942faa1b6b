package raft

import (
	"cmp"
	"reflect"
	"slices"
	"testing"
)

// roomy is x anew, with room behind each of its lists, in which something stands.
func roomy[T any](x T) T {
	return withRoom(reflect.ValueOf(x)).Interface().(T)
}

func withRoom(v reflect.Value) reflect.Value {
	own := reflect.New(v.Type()).Elem()
	own.Set(v)
	switch v.Kind() {
	case reflect.Struct:
		for i := range v.NumField() {
			own.Field(i).Set(withRoom(v.Field(i)))
		}
	case reflect.Slice:
		own.Set(reflect.MakeSlice(v.Type(), v.Len()+3, v.Len()+3))
		writeOver(own)
		for i := range v.Len() {
			own.Index(i).Set(withRoom(v.Index(i)))
		}
		own.Set(own.Slice(0, v.Len()))
	}
	return own
}

// spoil writes over all lists in x, and the room behind them.
func spoil(x any) {
	if x != nil {
		writeOver(reflect.ValueOf(x))
	}
}

func writeOver(v reflect.Value) {
	switch {
	case v.Kind() == reflect.Slice:
		for i := range v.Cap() {
			writeOver(v.Slice(0, v.Cap()).Index(i))
		}
	case v.Kind() == reflect.Struct:
		for i := range v.NumField() {
			writeOver(v.Field(i))
		}
	case v.CanSet() && v.CanInt():
		v.SetInt(-7)
	case v.CanSet() && v.CanUint():
		v.SetUint('!')
	case v.CanSet() && v.Kind() == reflect.Bool:
		v.SetBool(!v.Bool())
	}
}

// whole tells x with the room behind its lists.
func whole(x any) string {
	return told(withAll(reflect.ValueOf(x)).Interface())
}

func withAll(v reflect.Value) reflect.Value {
	own := reflect.New(v.Type()).Elem()
	own.Set(v)
	switch v.Kind() {
	case reflect.Struct:
		for i := range v.NumField() {
			own.Field(i).Set(withAll(v.Field(i)))
		}
	case reflect.Slice:
		all := v.Slice(0, v.Cap())
		own.Set(reflect.MakeSlice(v.Type(), v.Cap(), v.Cap()))
		for i := range v.Cap() {
			own.Index(i).Set(withAll(all.Index(i)))
		}
	}
	return own
}

// extent is the memory of a list, with the room behind it.
type extent struct {
	from, to uintptr
}

func extents(v reflect.Value) []extent {
	var l []extent
	switch v.Kind() {
	case reflect.Struct:
		for i := range v.NumField() {
			l = append(l, extents(v.Field(i))...)
		}
	case reflect.Slice:
		if v.Cap() > 0 {
			l = append(l, extent{v.Pointer(), v.Pointer() + uintptr(v.Cap())*v.Type().Elem().Size()})
		}
		for i := range v.Len() {
			l = append(l, extents(v.Index(i))...)
		}
	}
	return l
}

// apart: no two lists of an answer share memory.
func apart(t *testing.T, x any) {
	t.Helper()
	l := extents(reflect.ValueOf(x))
	slices.SortFunc(l, func(a, b extent) int { return cmp.Compare(a.from, b.from) })
	for i := 1; i < len(l); i++ {
		if l[i].from < l[i-1].to {
			t.Fatalf("two lists share memory: %.600s", told(x))
		}
	}
}

// handed is what a call is handed in lists.
func handed(c call) []any {
	return []any{c.m, c.data, c.nodes}
}

// What is handed in is not changed, nor the room behind it, and not kept; what comes out is its owner's: who writes over both changes nothing within.
func TestMemory(t *testing.T) {
	for start := range 120 {
		draw := draws(start)
		s, first := drawnSaved(draw), drawnGroup(draw)
		p := newPair(t, 1+draw(2), s, first)
		in, inFirst := roomy(s), roomy(first)
		was, wasFirst := whole(in), whole(inFirst)
		n := made(t, p.other.id, in, inFirst...)
		if whole(in) != was || whole(inFirst) != wasFirst {
			t.Fatalf("row %d: New was handed %s and %s", start, whole(in), whole(inFirst))
		}
		spoil(in)
		spoil(inFirst)
		for range 200 {
			c := drawnCall(draw, p.other)
			own := c
			own.m, own.data, own.nodes = roomy(c.m), roomy(c.data), roomy(c.nodes)
			p.spoilt(t, n, c, own)
		}
	}
}

// spoilt: n answers what it is handed as own, and stands behind it, as another reading does with the same call; all of that is written over.
func (p pair) spoilt(t *testing.T, n *Node, c, own call) {
	t.Helper()
	var was []string
	for _, x := range handed(own) {
		was = append(was, whole(x))
	}
	got := asked(n, own)
	for i, x := range handed(own) {
		if whole(x) != was[i] {
			t.Fatalf("%s was handed %.600s, which is %.600s now", own.what, was[i], whole(x))
		}
		spoil(x)
	}
	same(t, c.what, got, asked(p.other, c))
	same(t, "View", n.View(), p.other.View())
	same(t, "Saved", n.Saved(), p.other.Saved())
	if t.Failed() {
		t.FailNow()
	}
	for _, x := range append(got, n.View(), n.Saved()) {
		apart(t, x)
		spoil(x)
	}
}

// kept is something that has come out, and how it was told then.
type kept struct {
	x    any
	text string
}

// What came out, and what went in, stays, whatever is done later on.
func TestToldStays(t *testing.T) {
	for start := range 60 {
		draw := draws(start)
		s, first := drawnSaved(draw), drawnGroup(draw)
		p := newPair(t, 1+draw(2), s, first)
		l := []kept{{s, whole(s)}, {first, whole(first)}}
		keep := func(l []kept, xs ...any) []kept {
			for _, x := range xs {
				l = append(l, kept{x, whole(x)})
			}
			return l
		}
		for range 200 {
			c := drawnCall(draw, p.other)
			l = keep(l, handed(c)...)
			l = keep(l, asked(p.node, c)...)
			l = keep(l, p.node.View(), p.node.Saved())
			asked(p.other, c)
		}
		for _, k := range l {
			if whole(k.x) != k.text {
				t.Fatalf("row %d: it is %.600s now, not %.600s", start, whole(k.x), k.text)
			}
		}
	}
}
