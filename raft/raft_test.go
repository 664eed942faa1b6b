package raft

import (
	"fmt"
	"testing"

	"scriptorium/api"
	"scriptorium/wire"
)

// told is anything a node tells, as a text; a list of nothing is told alike, be it nil or empty.
func told(x any) string {
	return fmt.Sprintf("%+v", x)
}

func same(t *testing.T, what string, got, want any) {
	t.Helper()
	if told(got) != told(want) {
		t.Errorf("%s: %.600s, not %.600s", what, told(got), told(want))
	}
}

func none(index, term int) api.Entry {
	return api.Entry{Index: index, Term: term}
}

func command(index, term int, data string) api.Entry {
	return api.Entry{Index: index, Term: term, Kind: api.KindCommand, Data: []byte(data)}
}

func change(index, term int, nodes ...int) api.Entry {
	return api.Entry{Index: index, Term: term, Kind: api.KindNodes, Nodes: nodes}
}

func snapshot(index, term int, data string, nodes ...int) api.Snap {
	return api.Snap{Index: index, Term: term, Nodes: nodes, Data: []byte(data)}
}

// terms are entries of these terms, behind an Index.
func terms(index int, terms ...int) []api.Entry {
	var l []api.Entry
	for i, term := range terms {
		l = append(l, none(index+1+i, term))
	}
	return l
}

// The letters from one node to another.
func ask(from, to, term, index, logTerm int) api.Letter {
	return api.Letter{Kind: api.LAsk, From: from, To: to, Term: term, Index: index, LogTerm: logTerm}
}

func vote(from, to, term int, ok bool) api.Letter {
	return api.Letter{Kind: api.LVote, From: from, To: to, Term: term, Ok: ok}
}

func bring(from, to, term, index, logTerm, commit, round int, entries ...api.Entry) api.Letter {
	return api.Letter{Kind: api.LAppend, From: from, To: to, Term: term, Index: index, LogTerm: logTerm, Commit: commit, Round: round, Entries: entries}
}

func answer(from, to, term int, ok bool, index, round int) api.Letter {
	return api.Letter{Kind: api.LAnswer, From: from, To: to, Term: term, Ok: ok, Index: index, Round: round}
}

func install(from, to, term, round int, x api.Snap) api.Letter {
	return api.Letter{Kind: api.LInstall, From: from, To: to, Term: term, Round: round, Snap: x}
}

// made is one with what was saved.
func made(t *testing.T, id int, s api.Saved, first ...int) *Node {
	t.Helper()
	n := New(id, s, first)
	if n == nil {
		t.Fatalf("New(%d, %+v, %d) is nil", id, s, first)
	}
	return n
}

// tick ticks it so many times, with the draw 0.
func tick(n *Node, times int) {
	for range times {
		n.Tick(0)
	}
}

// hears hands it letters that it answers OK.
func hears(t *testing.T, n *Node, l ...api.Letter) {
	t.Helper()
	for _, m := range l {
		if e := n.Hear(m); e != api.OK {
			t.Fatalf("%+v is answered %v", m, e)
		}
	}
}

// writes: since the last Take it wrote these letters, all of them right, and no others.
func writes(t *testing.T, n *Node, want ...api.Letter) {
	t.Helper()
	got := n.Take().Letters
	same(t, "letters", got, want)
	for _, m := range got {
		if !wire.Right(m) {
			t.Errorf("a letter that is not right: %+v", m)
		}
	}
}

// stands: it stands like this, the group beside.
func stands(t *testing.T, n *Node, term, vote, role, leader, commit, last int) {
	t.Helper()
	v := n.View()
	same(t, "term, vote, role, leader, commit, last", []int{v.Term, v.Vote, v.Role, v.Leader, v.Commit, v.Last}, []int{term, vote, role, leader, commit, last})
}

// leads is a node 1 of the group that leads in the term behind what was saved, and whose letters were taken; the node 2 voted for it.
func leads(t *testing.T, s api.Saved, first ...int) *Node {
	t.Helper()
	n := made(t, 1, s, first...)
	tick(n, 10)
	if n.View().Role != api.Leads {
		hears(t, n, vote(2, 1, s.Term+1, true))
	}
	if n.View().Role != api.Leads && len(n.View().Group) > 3 {
		hears(t, n, vote(3, 1, s.Term+1, true))
	}
	if v := n.View(); v.Role != api.Leads {
		t.Fatalf("it does not lead: %+v", v)
	}
	n.Take()
	return n
}

// proposes adds a command.
func proposes(t *testing.T, n *Node, data string) {
	t.Helper()
	if _, _, e := n.Propose(api.KindCommand, []byte(data), nil); e != api.OK {
		t.Fatalf("Propose: %v", e)
	}
}

func TestExample(t *testing.T) {
	n := made(t, 1, api.Saved{}, 1, 2, 3)
	tick(n, 9)
	same(t, "nine ticks", n.Take(), api.Out{})
	tick(n, 1)
	stands(t, n, 1, 1, api.Stands, 0, 0, 0)
	same(t, "ten ticks", n.Take(), api.Out{Hard: true, Term: 1, Vote: 1, Letters: []api.Letter{ask(1, 2, 1, 0, 0), ask(1, 3, 1, 0, 0)}})
	hears(t, n, vote(2, 1, 1, true))
	stands(t, n, 1, 1, api.Leads, 1, 0, 1)
	first := none(1, 1)
	same(t, "it leads", n.Take(), api.Out{Put: []api.Entry{first}, Letters: []api.Letter{bring(1, 2, 1, 0, 0, 0, 1, first), bring(1, 3, 1, 0, 0, 0, 1, first)}})
	hears(t, n, answer(2, 1, 1, true, 1, 1))
	stands(t, n, 1, 1, api.Leads, 1, 1, 1)
	same(t, "2 has it", n.Take(), api.Out{Commit: []api.Entry{first}})
	number, e := n.Read()
	same(t, "Read", []any{number, e}, []any{1, api.OK})
	same(t, "a read waits", n.Take(), api.Out{Letters: []api.Letter{bring(1, 2, 1, 1, 1, 1, 2), bring(1, 3, 1, 0, 0, 1, 2, first)}})
	hears(t, n, answer(2, 1, 1, true, 1, 1))
	same(t, "2 heard the round 1", n.Take(), api.Out{})
	hears(t, n, answer(3, 1, 1, false, 0, 2))
	same(t, "3 heard the round 2", n.Take(), api.Out{Letters: []api.Letter{bring(1, 3, 1, 0, 0, 1, 2, first)}, Reads: []api.Ready{{Number: 1, Index: 1}}})
}

func TestExampleAlone(t *testing.T) {
	n := made(t, 4, api.Saved{}, 4)
	tick(n, 10)
	stands(t, n, 1, 4, api.Leads, 4, 1, 1)
	first := none(1, 1)
	same(t, "it leads", n.Take(), api.Out{Hard: true, Term: 1, Vote: 4, Put: []api.Entry{first}, Commit: []api.Entry{first}})
	proposes(t, n, "x")
	number, e := n.Read()
	same(t, "Read", []any{number, e}, []any{1, api.OK})
	l := []api.Entry{command(2, 1, "x")}
	same(t, "x", n.Take(), api.Out{Put: l, Commit: l, Reads: []api.Ready{{Number: 1, Index: 2}}})
}
