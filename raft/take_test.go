package raft

import (
	"math"
	"testing"

	"scriptorium/api"
)

// Of a term and a vote what counts is whether they are others than at the last Take.
func TestTakeHard(t *testing.T) {
	n := made(t, 1, api.Saved{Term: 3, Vote: 2}, 1, 2, 3)
	hears(t, n, ask(2, 1, 3, 0, 0), ask(3, 1, 3, 0, 0))
	writes(t, n, vote(1, 2, 3, true), vote(1, 3, 3, false))
	hears(t, n, ask(3, 1, 4, 0, 0), vote(2, 1, 6, true))
	o := n.Take()
	same(t, "Hard", []any{o.Hard, o.Term, o.Vote, o.Put, o.Commit}, []any{true, 6, 0, []int{}, []int{}})
	hears(t, n, ask(3, 1, 6, 0, 0))
	o = n.Take()
	same(t, "Hard", []any{o.Hard, o.Term, o.Vote}, []any{true, 6, 3})
	hears(t, n, ask(3, 1, 6, 0, 0))
	o = n.Take()
	same(t, "Hard", []any{o.Hard, o.Term, o.Vote}, []any{false, 0, 0})
}

// From the first entry on that is another one all are told, also such as were told ahead.
func TestTakePut(t *testing.T) {
	n := made(t, 1, api.Saved{Term: 9}, 1, 2)
	put := func(want ...api.Entry) {
		t.Helper()
		same(t, "Put", n.Take().Put, want)
	}
	hears(t, n, bring(2, 1, 9, 0, 0, 0, 1, terms(0, 1, 2, 3)...))
	put(terms(0, 1, 2, 3)...)
	put()
	hears(t, n, bring(2, 1, 9, 3, 3, 0, 1, terms(3, 3)...), bring(2, 1, 9, 4, 3, 0, 1, terms(4, 3)...))
	put(terms(3, 3, 3)...)
	hears(t, n, bring(2, 1, 9, 5, 3, 0, 1, terms(5, 3)...), bring(2, 1, 9, 1, 1, 0, 1, terms(1, 4)...))
	put(terms(1, 4)...)
	hears(t, n, bring(2, 1, 9, 2, 4, 0, 1, terms(2, 5, 5, 6)...), bring(2, 1, 9, 4, 5, 0, 1, terms(4, 7)...), bring(2, 1, 9, 0, 0, 0, 1, terms(0, 1, 4)...))
	put(terms(2, 5, 5, 7)...)
	hears(t, n, bring(2, 1, 9, 4, 5, 0, 1, terms(4, 7)...))
	put()
	hears(t, n, bring(2, 1, 9, 0, 0, 0, 1, terms(0, 8)...))
	put(none(1, 8))
}

// Each entry is told as committed once, by its Index.
func TestTakeCommit(t *testing.T) {
	n := made(t, 1, api.Saved{Term: 3, Snap: snapshot(4, 1, "", 1, 2), Entries: terms(4, 2, 2, 3, 3)})
	for _, c := range []struct {
		commit int
		want   []api.Entry
	}{{0, nil}, {5, terms(4, 2)}, {5, nil}, {4, nil}, {7, terms(5, 2, 3)}, {99, terms(7, 3)}, {99, nil}} {
		hears(t, n, bring(2, 1, 3, 8, 3, c.commit, 1))
		same(t, "Commit", n.Take().Commit, c.want)
	}
}

// Of more than 64 letters the last ones are there.
func TestBox(t *testing.T) {
	for _, count := range []int{1, 63, 64, 65, 66, 128, 200} {
		n := made(t, 1, api.Saved{Term: 1000}, 1, 2)
		var want []api.Letter
		for i := range count {
			hears(t, n, bring(2+i%4, 1, 1+i, 0, 0, 0, i))
			want = append(want, answer(1, 2+i%4, 1000, false, 0, i))
		}
		writes(t, n, want[max(0, count-64):]...)
		writes(t, n)
		hears(t, n, bring(2, 1, 1, 0, 0, 0, 7))
		writes(t, n, answer(1, 2, 1000, false, 0, 7))
	}
}

// A letter stays as it was written, though the term is another one when it is taken.
func TestBoxKeepsTerms(t *testing.T) {
	n := leads(t, api.Saved{}, 1, 2)
	tick(n, 3)
	hears(t, n, bring(3, 1, 2, 0, 0, 0, 1, none(1, 2)))
	writes(t, n, bring(1, 2, 1, 0, 0, 0, 2, none(1, 1)), answer(1, 3, 2, true, 1, 1))
}

func TestTakeAllAtOnce(t *testing.T) {
	n := made(t, 1, api.Saved{}, 1, 2)
	tick(n, 10)
	hears(t, n, vote(2, 1, 1, true))
	hears(t, n, answer(2, 1, 1, true, 1, 1))
	n.Read()
	hears(t, n, answer(2, 1, 1, true, 1, 2))
	proposes(t, n, "x")
	x := command(2, 1, "x")
	want := api.Out{
		Hard: true, Term: 1, Vote: 1, Put: []api.Entry{none(1, 1), x}, Commit: terms(0, 1), Reads: []api.Ready{{Number: 1, Index: 1}},
		Letters: []api.Letter{ask(1, 2, 1, 0, 0), bring(1, 2, 1, 0, 0, 0, 1, none(1, 1)), bring(1, 2, 1, 1, 1, 1, 2), bring(1, 2, 1, 1, 1, 1, 2, x)},
	}
	same(t, "Take", n.Take(), want)
	same(t, "Take", n.Take(), api.Out{})
}

// compacts: Compact answers this, and an error changes nothing.
func compacts(t *testing.T, n *Node, i int, data []byte, want api.Snap, e api.Errno) {
	t.Helper()
	view, saved := n.View(), n.Saved()
	x, err := n.Compact(i, data)
	same(t, "Compact", []any{x.Index, x.Term, x.Nodes, len(x.Data), err}, []any{want.Index, want.Term, want.Nodes, len(want.Data), e})
	if e != api.OK {
		same(t, "View", n.View(), view)
		same(t, "Saved", n.Saved(), saved)
	}
	same(t, "Take", n.Take(), api.Out{})
}

// toCompact has the snapshot 5 of the group 1 2, entries of which 7 and 9 name others, and told them up to 9.
func toCompact(t *testing.T) *Node {
	t.Helper()
	n := made(t, 1, api.Saved{Term: 5, Vote: 3, Snap: snapshot(5, 2, "x", 1, 2), Entries: []api.Entry{none(6, 2), change(7, 3, 1, 2, 3), command(8, 4, "a"), change(9, 4, 1, 3), none(10, 5)}}, 4)
	hears(t, n, bring(2, 1, 5, 10, 5, 9, 1))
	n.Take()
	return n
}

func TestCompact(t *testing.T) {
	for i, want := range map[int]api.Snap{
		6: snapshot(6, 2, "y", 1, 2), 7: snapshot(7, 3, "y", 1, 2, 3), 8: snapshot(8, 4, "y", 1, 2, 3), 9: snapshot(9, 4, "y", 1, 3),
	} {
		n := toCompact(t)
		saved := n.Saved()
		compacts(t, n, i, []byte("y"), want, api.OK)
		saved.Snap, saved.Entries = want, saved.Entries[i-5:]
		same(t, "Saved", n.Saved(), saved)
		same(t, "View", n.View(), api.View{Term: 5, Vote: 3, Leader: 2, First: i, Commit: 9, Last: 10, Group: []int{1, 3}})
		compacts(t, n, i, []byte("y"), api.Snap{}, api.ErrIndex)
	}
}

func TestCompactWrong(t *testing.T) {
	n := toCompact(t)
	for _, i := range []int{math.MinInt, -1, 0, 4, 5, 10, 11, 999999, math.MaxInt} {
		compacts(t, n, i, nil, api.Snap{}, api.ErrIndex)
		compacts(t, n, i, make([]byte, 300001), api.Snap{}, api.ErrIndex)
	}
	for i := 6; i <= 9; i++ {
		compacts(t, n, i, make([]byte, 300001), api.Snap{}, api.ErrLong)
	}
	compacts(t, n, 6, make([]byte, 300000), api.Snap{Index: 6, Term: 2, Nodes: []int{1, 2}, Data: make([]byte, 300000)}, api.OK)
	compacts(t, n, 6, nil, api.Snap{}, api.ErrIndex)
	compacts(t, n, 7, nil, snapshot(7, 3, "", 1, 2, 3), api.OK)
	compacts(t, n, 9, nil, snapshot(9, 4, "", 1, 3), api.OK)
	compacts(t, n, 10, nil, api.Snap{}, api.ErrIndex)
}

// What is committed, but was not told, is not compacted.
func TestCompactBehindTold(t *testing.T) {
	n := toCompact(t)
	hears(t, n, bring(2, 1, 5, 10, 5, 10, 1))
	same(t, "Commit", n.View().Commit, 10)
	if _, e := n.Compact(10, nil); e != api.ErrIndex {
		t.Error(e)
	}
	n.Take()
	compacts(t, n, 10, nil, snapshot(10, 5, "", 1, 3), api.OK)
	hears(t, n, bring(2, 1, 5, 10, 5, 12, 1, terms(10, 5, 5, 5)...))
	same(t, "Take", n.Take(), api.Out{Put: terms(10, 5, 5, 5), Commit: terms(10, 5, 5), Letters: []api.Letter{answer(1, 2, 5, true, 13, 1)}})
	compacts(t, n, 12, nil, snapshot(12, 5, "", 1, 3), api.OK)
}

func TestCompactOfFirstGroup(t *testing.T) {
	for _, first := range [][]int{nil, {2, 4}} {
		n := made(t, 1, api.Saved{Term: 1}, first...)
		hears(t, n, bring(2, 1, 1, 0, 0, 3, 1, none(1, 1), none(2, 1), change(3, 1, 1, 5)))
		n.Take()
		if first == nil {
			compacts(t, n, 2, nil, api.Snap{}, api.ErrArg)
			compacts(t, n, 2, make([]byte, 300001), api.Snap{}, api.ErrLong)
		} else {
			compacts(t, n, 2, nil, snapshot(2, 1, "", 2, 4), api.OK)
		}
		compacts(t, n, 3, nil, snapshot(3, 1, "", 1, 5), api.OK)
	}
}

func TestCompactAtMaxIndex(t *testing.T) {
	n := made(t, 1, api.Saved{Term: 1, Snap: snapshot(999996, 1, "", 1), Entries: terms(999996, 1, 1)})
	tick(n, 10)
	n.Take()
	stands(t, n, 2, 1, api.Leads, 1, 999999, 999999)
	compacts(t, n, 999999, nil, api.Snap{}, api.ErrArg)
	compacts(t, n, 999999, make([]byte, 300001), api.Snap{}, api.ErrLong)
	compacts(t, n, 1000000, nil, api.Snap{}, api.ErrIndex)
	compacts(t, n, 999998, nil, snapshot(999998, 1, "", 1), api.OK)
	compacts(t, n, 999999, nil, api.Snap{}, api.ErrArg)
}

// Others are brought the snapshot where their next entries are gone, till they have it.
func TestCompactOfLeader(t *testing.T) {
	n := leads(t, api.Saved{}, 1, 2, 3)
	for range 3 {
		proposes(t, n, "a")
	}
	hears(t, n, answer(2, 1, 1, true, 4, 1))
	n.Take()
	x := snapshot(3, 1, "y", 1, 2, 3)
	compacts(t, n, 3, []byte("y"), x, api.OK)
	tick(n, 3)
	writes(t, n, bring(1, 2, 1, 4, 1, 4, 2), install(1, 3, 1, 2, x))
	number, e := n.Read()
	same(t, "Read", []any{number, e}, []any{1, api.OK})
	writes(t, n, bring(1, 2, 1, 4, 1, 4, 3), install(1, 3, 1, 3, x))
	hears(t, n, answer(3, 1, 1, true, 3, 2))
	writes(t, n, bring(1, 3, 1, 3, 1, 4, 3, command(4, 1, "a")))
	hears(t, n, answer(3, 1, 1, false, 0, 3))
	writes(t, n, bring(1, 3, 1, 3, 1, 4, 3, command(4, 1, "a")))
	hears(t, n, answer(3, 1, 1, true, 4, 3))
	writes(t, n)
}
