package raft

import (
	"math"
	"testing"

	"scriptorium/api"
)

// rightSaved may all be.
func rightSaved() []api.Saved {
	x := snapshot(5, 2, "x", 1, 2)
	return []api.Saved{
		{},
		{Term: 999999, Vote: 5},
		{Snap: api.Snap{Nodes: []int{}, Data: []byte{}}, Entries: []api.Entry{}},
		{Term: 2, Snap: x},
		{Term: 3, Vote: 1, Snap: x},
		{Term: 0, Snap: snapshot(1, 0, "", 1)},
		{Term: 999999, Vote: 5, Snap: api.Snap{Index: 999998, Term: 999999, Nodes: []int{1, 2, 3, 4, 5}, Data: make([]byte, 300000)}},
		{Term: 999999, Snap: snapshot(999998, 999999, "", 5), Entries: []api.Entry{none(999999, 999999)}},
		{Term: 1, Entries: []api.Entry{none(1, 1)}},
		{Term: 7, Entries: []api.Entry{none(1, 1), command(2, 1, ""), change(3, 5, 1, 2), {Index: 4, Term: 7, Kind: 1, Data: make([]byte, 8000)}}},
		{Term: 7, Snap: x, Entries: []api.Entry{none(6, 2), none(7, 7)}},
		{Term: 7, Snap: x, Entries: []api.Entry{{Index: 6, Term: 3, Data: []byte{}, Nodes: []int{}}}},
	}
}

// wrongSaved may not be.
func wrongSaved() []api.Saved {
	x, y := snapshot(5, 2, "x", 1, 2), func(change func(x *api.Snap)) api.Saved {
		x := snapshot(5, 2, "x", 1, 2)
		change(&x)
		return api.Saved{Term: 2, Snap: x}
	}
	return []api.Saved{
		{Term: -1}, {Term: 1000000}, {Term: math.MinInt}, {Term: math.MaxInt},
		{Vote: -1}, {Vote: 6}, {Vote: math.MaxInt}, {Term: 3, Vote: 257},
		{Term: 1, Snap: x}, {Snap: x},
		{Snap: api.Snap{Term: 1}, Term: 1}, {Snap: api.Snap{Nodes: []int{1}}}, {Snap: api.Snap{Data: []byte("x")}}, {Snap: api.Snap{Index: -1}},
		{Snap: api.Snap{Index: -1, Nodes: []int{1}}},
		y(func(x *api.Snap) { x.Index = -5 }), y(func(x *api.Snap) { x.Index = 999999 }), y(func(x *api.Snap) { x.Index = math.MaxInt }), y(func(x *api.Snap) { x.Index = 0 }),
		y(func(x *api.Snap) { x.Term = -1 }), y(func(x *api.Snap) { x.Term = 3 }), y(func(x *api.Snap) { x.Nodes = nil }),
		y(func(x *api.Snap) { x.Nodes = []int{2, 1} }), y(func(x *api.Snap) { x.Nodes = []int{0, 1} }), y(func(x *api.Snap) { x.Nodes = []int{6} }),
		y(func(x *api.Snap) { x.Data = make([]byte, 300001) }),
		{Term: 1, Entries: []api.Entry{none(0, 1)}}, {Term: 1, Entries: []api.Entry{none(2, 1)}}, {Term: 1, Entries: []api.Entry{none(1, 0)}},
		{Term: 1, Entries: []api.Entry{none(1, 2)}}, {Entries: []api.Entry{none(1, 1)}}, {Term: 1, Entries: []api.Entry{none(1, 1), none(1, 1)}},
		{Term: 1, Entries: []api.Entry{none(1, 1), none(3, 1)}}, {Term: 2, Entries: []api.Entry{none(1, 2), none(2, 1)}},
		{Term: 2, Snap: x, Entries: []api.Entry{none(5, 2)}}, {Term: 2, Snap: x, Entries: []api.Entry{none(7, 2)}}, {Term: 2, Snap: x, Entries: []api.Entry{none(6, 1)}},
		{Term: 2, Snap: x, Entries: []api.Entry{none(1, 2)}}, {Term: 2, Snap: x, Entries: []api.Entry{none(6, 2), none(7, 3)}},
		{Term: 2, Entries: []api.Entry{{Index: 1, Term: 2, Kind: 3}}}, {Term: 2, Entries: []api.Entry{{Index: 1, Term: 2, Kind: -1}}},
		{Term: 2, Entries: []api.Entry{{Index: 1, Term: 2, Data: []byte("x")}}}, {Term: 2, Entries: []api.Entry{change(1, 2)}},
		{Term: 2, Entries: []api.Entry{{Index: 1, Term: 2, Kind: 1, Data: make([]byte, 8001)}}}, {Term: 2, Entries: []api.Entry{change(1, 2, 1, 1)}},
		{Term: 2, Entries: []api.Entry{{Index: 1, Term: 2, Kind: 1, Nodes: []int{1}}}},
		{Term: 9, Snap: snapshot(999998, 9, "", 5), Entries: []api.Entry{none(999999, 9), none(1000000, 9)}},
	}
}

func TestNew(t *testing.T) {
	for _, s := range rightSaved() {
		for _, first := range [][]int{nil, {}, {1}, {5}, {2, 3}, {1, 2, 3, 4, 5}} {
			for id := 1; id <= 5; id += 4 {
				n := made(t, id, s, first...)
				same(t, "Saved", n.Saved(), s)
				same(t, "Take", n.Take(), api.Out{})
				v := api.View{Term: s.Term, Vote: s.Vote, First: s.Snap.Index, Commit: s.Snap.Index, Last: s.Snap.Index + len(s.Entries), Group: first}
				if len(s.Snap.Nodes) > 0 {
					v.Group = s.Snap.Nodes
				}
				for _, e := range s.Entries {
					if e.Kind == api.KindNodes {
						v.Group = e.Nodes
					}
				}
				same(t, "View", n.View(), v)
			}
		}
	}
}

func TestNewOfWrong(t *testing.T) {
	for _, s := range wrongSaved() {
		for _, first := range [][]int{nil, {1, 2, 3}} {
			if New(1, s, first) != nil {
				t.Errorf("there is one with %.300s", told(s))
			}
		}
	}
	for _, id := range []int{math.MinInt, -1, 0, 6, 7, 257, 1<<32 + 1, math.MaxInt} {
		for _, s := range rightSaved() {
			if New(id, s, nil) != nil || New(id, s, []int{1, 2}) != nil {
				t.Errorf("there is a node %d", id)
			}
		}
	}
	for _, first := range [][]int{{0}, {6}, {-1}, {2, 1}, {1, 1}, {1, 2, 2}, {1, 2, 3, 4, 5, 6}, {0, 1}, make([]int, 1000)} {
		for _, s := range rightSaved() {
			if New(1, s, first) != nil {
				t.Errorf("there is one with the first group %.100d", first)
			}
		}
	}
}

// Whom it voted for in its term it does not forget.
func TestNewKeepsTheVote(t *testing.T) {
	n := made(t, 1, api.Saved{Term: 4, Vote: 2}, 1, 2, 3)
	hears(t, n, ask(3, 1, 4, 9, 4), ask(2, 1, 4, 9, 4))
	writes(t, n, vote(1, 3, 4, false), vote(1, 2, 4, true))
	n = made(t, 1, api.Saved{Term: 4}, 1, 2, 3)
	hears(t, n, ask(3, 1, 4, 9, 4), ask(2, 1, 4, 9, 4))
	writes(t, n, vote(1, 3, 4, true), vote(1, 2, 4, false))
}

// Two have nothing to do with each other.
func TestTwo(t *testing.T) {
	s := api.Saved{Term: 1, Entries: []api.Entry{none(1, 1)}}
	a, b := made(t, 1, s, 1), made(t, 1, s, 1)
	tick(a, 10)
	proposes(t, a, "x")
	stands(t, a, 2, 1, api.Leads, 1, 3, 3)
	stands(t, b, 1, 0, api.Follows, 0, 0, 1)
	same(t, "Saved", b.Saved(), s)
	same(t, "Take", b.Take(), api.Out{})
	tick(b, 10)
	same(t, "the put ones", len(a.Take().Put), 2)
	stands(t, b, 2, 1, api.Leads, 1, 2, 2)
}
