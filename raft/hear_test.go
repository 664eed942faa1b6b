package raft

import (
	"math"
	"testing"

	"scriptorium/api"
)

// someNodes are nodes 1 in each role, in the term 4.
func someNodes(t *testing.T) map[string]*Node {
	t.Helper()
	s := api.Saved{Term: 3, Vote: 2, Snap: snapshot(5, 2, "x", 1, 2, 3), Entries: terms(5, 2, 3)}
	follows, stands := made(t, 1, s), made(t, 1, s)
	hears(t, follows, bring(2, 1, 4, 7, 3, 6, 9, none(8, 4)))
	tick(stands, 10)
	l := map[string]*Node{"follows": follows, "stands": stands, "leads": leads(t, s)}
	for _, n := range l {
		n.Take()
		if n.View().Term != 4 {
			t.Fatal(n.View())
		}
	}
	return l
}

// refuses: handed these, it answers ErrArg, and is as it was.
func refuses(t *testing.T, n *Node, l ...api.Letter) {
	t.Helper()
	view, saved := n.View(), n.Saved()
	for _, m := range l {
		if e := n.Hear(m); e != api.ErrArg {
			t.Errorf("%.300s is answered %v", told(m), e)
		}
	}
	same(t, "View", n.View(), view)
	same(t, "Saved", n.Saved(), saved)
	same(t, "Take", n.Take(), api.Out{})
}

func TestHearWrong(t *testing.T) {
	for _, term := range []int{3, 4, 5, 999999} {
		for _, n := range someNodes(t) {
			refuses(t, n, api.Letter{},
				api.Letter{Kind: 6, From: 2, To: 1, Term: term}, api.Letter{Kind: -1, From: 2, To: 1, Term: term},
				ask(2, 3, term, 9, 3), ask(1, 2, term, 9, 3), ask(1, 1, term, 9, 3), ask(0, 1, term, 9, 3), ask(6, 1, term, 9, 3), ask(-1, 1, term, 9, 3), ask(2, 0, term, 9, 3),
				ask(2, 1, term, 1000000, 3), ask(2, 1, term, -1, 3), ask(2, 1, term, 9, -1), ask(2, 1, term, 9, term+1), ask(2, 1, 1000000, 9, 3), ask(2, 1, math.MaxInt, 9, 3),
				vote(2, 3, term, true), vote(1, 1, term, true), vote(6, 1, term, true), vote(2, 1, 1000000, true),
				bring(2, 3, term, 9, 3, 0, 0), bring(2, 1, term, 9, term+1, 0, 0), bring(2, 1, term, 9, 3, 1000000, 0), bring(2, 1, term, 9, 3, -1, 0), bring(2, 1, term, 9, 3, 0, 1<<30+1),
				bring(2, 1, term, 7, 3, 0, 0, none(9, 3)), bring(2, 1, term, 7, 3, 0, 0, none(8, 2)), bring(2, 1, term, 7, 3, 0, 0, none(8, term+1)), bring(2, 1, term, 7, 3, 0, 0, terms(7, 3, 3, 3, 3, 3)...),
				bring(2, 1, term, 7, 3, 0, 0, change(8, 3)), bring(2, 1, term, 999999, 3, 0, 0, none(1000000, 3)),
				answer(2, 3, term, true, 5, 1), answer(3, 3, term, true, 5, 1), answer(2, 1, term, true, -1, 1), answer(2, 1, term, false, 1000000, 1), answer(2, 1, term, false, 1, -1),
				install(2, 3, term, 1, snapshot(9, 3, "", 1)), install(2, 1, term, 1, snapshot(9, term+1, "", 1)), install(2, 1, term, 1, snapshot(9, 3, "")), install(2, 1, term, 1, api.Snap{}),
				install(2, 1, term, 1, snapshot(999999, 3, "", 1)), install(2, 1, term, -1, snapshot(9, 3, "", 1)),
			)
		}
	}
	for _, n := range someNodes(t) {
		refuses(t, n, ask(2, 1, 0, 0, 0), ask(2, 1, -1, 0, 0), vote(2, 1, 0, true), answer(2, 1, 0, true, 0, 0), bring(2, 1, 0, 0, 0, 0, 0))
	}
}

// What is of an older term is told the newer one, if it asks or leads; and nothing else.
func TestHearOlderTerm(t *testing.T) {
	for _, n := range someNodes(t) {
		view, saved := n.View(), n.Saved()
		for _, term := range []int{1, 2, 3} {
			hears(t, n, ask(2, 1, term, 99, term), vote(3, 1, term, true), bring(3, 1, term, 7, 1, 8, 77, none(8, term)), answer(2, 1, term, true, 999999, 9), answer(2, 1, term, false, 0, 9), install(5, 1, term, 1<<30, snapshot(99, 1, "y", 4)))
			writes(t, n, vote(1, 2, 4, false), answer(1, 3, 4, false, 0, 77), answer(1, 5, 4, false, 0, 1<<30))
		}
		same(t, "View", n.View(), view)
		same(t, "Saved", n.Saved(), saved)
		same(t, "Take", n.Take(), api.Out{})
	}
}

// The clock goes on where an older letter comes.
func TestOlderLetterIsNoLife(t *testing.T) {
	n := made(t, 1, api.Saved{Term: 2}, 1, 2)
	tick(n, 9)
	hears(t, n, bring(2, 1, 1, 0, 0, 0, 0), ask(2, 1, 1, 0, 0), install(2, 1, 1, 1, snapshot(9, 1, "", 1, 2)))
	tick(n, 1)
	stands(t, n, 3, 1, api.Stands, 0, 0, 0)
}

// By a letter of a greater term each of them follows nobody in that, and has not voted.
func TestHearGreaterTerm(t *testing.T) {
	for _, m := range []api.Letter{vote(2, 1, 9, true), vote(3, 1, 9, false), answer(2, 1, 9, false, 0, 0), answer(4, 1, 9, true, 999999, 7)} {
		for what, n := range someNodes(t) {
			v := n.View()
			hears(t, n, m)
			stands(t, n, 9, 0, api.Follows, 0, v.Commit, v.Last)
			same(t, what, n.Take(), api.Out{Hard: true, Term: 9})
		}
	}
}

// Votes of the term ahead are gone, and so is the leader's knowledge.
func TestGreaterTermEnds(t *testing.T) {
	n := made(t, 1, api.Saved{}, 1, 2, 3, 4, 5)
	tick(n, 10)
	hears(t, n, vote(2, 1, 1, true), answer(5, 1, 2, false, 0, 0), vote(3, 1, 2, true), vote(4, 1, 2, true))
	stands(t, n, 2, 0, api.Follows, 0, 0, 0)
	tick(n, 10)
	hears(t, n, vote(2, 1, 3, true))
	stands(t, n, 3, 1, api.Stands, 0, 0, 0)
	hears(t, n, vote(3, 1, 3, true))
	stands(t, n, 3, 1, api.Leads, 1, 0, 1)
}

// The clock goes on where only a greater term was heard.
func TestGreaterTermIsNoLife(t *testing.T) {
	n := made(t, 1, api.Saved{}, 1, 2)
	tick(n, 9)
	hears(t, n, vote(2, 1, 5, false))
	tick(n, 1)
	stands(t, n, 6, 1, api.Stands, 0, 0, 0)
	l := leads(t, api.Saved{}, 1, 2)
	tick(l, 2)
	hears(t, l, vote(2, 1, 5, false))
	tick(l, 7)
	stands(t, l, 5, 0, api.Follows, 0, 0, 1)
	tick(l, 1)
	stands(t, l, 6, 1, api.Stands, 0, 0, 1)
}

func TestAsk(t *testing.T) {
	s := api.Saved{Term: 4, Snap: snapshot(5, 2, "", 1, 2), Entries: terms(5, 2, 3)}
	empty := api.Saved{Term: 4}
	alone := api.Saved{Term: 4, Snap: snapshot(5, 2, "", 1, 2)}
	for _, c := range []struct {
		s              api.Saved
		vote           int
		term           int
		index, logTerm int
		ok             bool
	}{
		{s, 0, 4, 7, 3, true}, {s, 2, 4, 7, 3, true}, {s, 3, 4, 7, 3, false}, {s, 1, 4, 7, 3, false}, {s, 3, 5, 7, 3, true}, {s, 1, 5, 7, 3, true},
		{s, 0, 4, 8, 3, true}, {s, 0, 4, 6, 3, false}, {s, 0, 4, 0, 3, false}, {s, 0, 4, 0, 4, true}, {s, 0, 4, 6, 4, true}, {s, 0, 4, 999999, 2, false}, {s, 0, 4, 7, 2, false}, {s, 0, 4, 7, 0, false},
		{s, 2, 4, 6, 3, false}, {s, 0, 5, 6, 3, false}, {s, 3, 5, 6, 3, false}, {s, 3, 5, 6, 5, true},
		{empty, 0, 4, 0, 0, true}, {empty, 0, 4, 1, 0, true}, {empty, 0, 4, 0, 1, true}, {empty, 5, 4, 0, 1, false}, {empty, 5, 999999, 0, 0, true},
		{alone, 0, 4, 5, 2, true}, {alone, 0, 4, 4, 2, false}, {alone, 0, 4, 6, 2, true}, {alone, 0, 4, 9, 1, false}, {alone, 0, 4, 1, 3, true},
	} {
		c.s.Vote = c.vote
		n := made(t, 1, c.s)
		hears(t, n, ask(2, 1, c.term, c.index, c.logTerm))
		want := api.Out{Letters: []api.Letter{vote(1, 2, c.term, c.ok)}}
		after := c.vote
		if c.term > 4 {
			after = 0
		}
		if c.ok {
			after = 2
		}
		if c.term > 4 || after != c.vote {
			want.Hard, want.Term, want.Vote = true, c.term, after
		}
		same(t, "Take", n.Take(), want)
		same(t, "View", n.View(), api.View{Term: c.term, Vote: after, First: c.s.Snap.Index, Commit: c.s.Snap.Index, Last: c.s.Snap.Index + len(c.s.Entries), Group: c.s.Snap.Nodes})
	}
}

// Who stands or leads has voted for itself, and votes for nobody else in its term.
func TestAskOfOthers(t *testing.T) {
	l := someNodes(t)
	for _, what := range []string{"stands", "leads"} {
		n := l[what]
		view := n.View()
		hears(t, n, ask(2, 1, 4, 999999, 4), ask(3, 1, 4, 999999, 4))
		same(t, what, n.View(), view)
		writes(t, n, vote(1, 2, 4, false), vote(1, 3, 4, false))
		hears(t, n, ask(3, 1, 5, 999999, 4), ask(2, 1, 5, 999999, 4), ask(3, 1, 5, 999999, 4))
		stands(t, n, 5, 3, api.Follows, 0, view.Commit, view.Last)
		writes(t, n, vote(1, 3, 5, true), vote(1, 2, 5, false), vote(1, 3, 5, true))
	}
	n := l["follows"]
	hears(t, n, ask(3, 1, 4, 999999, 4))
	stands(t, n, 4, 3, api.Follows, 2, 6, 8) // a vote is nothing to whom it follows
	writes(t, n, vote(1, 3, 4, true))
}

// One whose own leaving was committed follows, but voted for itself.
func TestAskOfOneThatLeft(t *testing.T) {
	n := leads(t, api.Saved{}, 1, 2)
	hears(t, n, answer(2, 1, 1, true, 1, 1))
	if _, _, e := n.Propose(api.KindNodes, nil, []int{2}); e != api.OK {
		t.Fatal(e)
	}
	hears(t, n, answer(2, 1, 1, true, 2, 1))
	stands(t, n, 1, 1, api.Follows, 0, 2, 2)
	n.Take()
	hears(t, n, ask(2, 1, 1, 9, 1))
	writes(t, n, vote(1, 2, 1, false))
}

// A vote that it gives makes it wait anew; one that it does not give is nothing to its clock.
func TestAskAndClock(t *testing.T) {
	for _, ok := range []bool{false, true} {
		n := made(t, 1, api.Saved{Term: 1, Entries: terms(0, 1)}, 1, 2)
		tick(n, 9)
		index := 0
		if ok {
			index = 1
		}
		hears(t, n, ask(2, 1, 1, index, 1))
		writes(t, n, vote(1, 2, 1, ok))
		tick(n, 1)
		same(t, "it stands", n.View().Role == api.Stands, !ok)
		tick(n, 8)
		same(t, "it stands", n.View().Role == api.Stands, !ok)
		tick(n, 1)
		same(t, "it stands", n.View().Role == api.Stands, true)
	}
}

// From whom it is asked need not be in its group, nor itself.
func TestAskOutside(t *testing.T) {
	n := made(t, 1, api.Saved{}, 2, 3)
	hears(t, n, ask(5, 1, 1, 0, 0))
	stands(t, n, 1, 5, api.Follows, 0, 0, 0)
	writes(t, n, vote(1, 5, 1, true))
}

func TestVote(t *testing.T) {
	five := func() *Node {
		n := made(t, 3, api.Saved{}, 1, 2, 3, 4, 5)
		tick(n, 10)
		n.Take()
		return n
	}
	for _, c := range []struct {
		l    []api.Letter
		role int
	}{
		{[]api.Letter{vote(1, 3, 1, true)}, api.Stands},
		{[]api.Letter{vote(1, 3, 1, true), vote(1, 3, 1, true), vote(1, 3, 1, true)}, api.Stands},
		{[]api.Letter{vote(1, 3, 1, true), vote(2, 3, 1, false), vote(4, 3, 1, false), vote(5, 3, 1, false)}, api.Stands},
		{[]api.Letter{vote(1, 3, 1, true), vote(1, 3, 1, false), vote(5, 3, 1, true)}, api.Leads},
		{[]api.Letter{vote(4, 3, 1, true), vote(2, 3, 1, true)}, api.Leads},
		{[]api.Letter{vote(2, 3, 1, false), vote(2, 3, 1, true), vote(1, 3, 1, true)}, api.Leads},
		{[]api.Letter{vote(4, 3, 1, true), bring(1, 3, 1, 0, 0, 0, 0), vote(2, 3, 1, true)}, api.Follows},
	} {
		n := five()
		hears(t, n, c.l...)
		same(t, told(c.l), n.View().Role, c.role)
	}
}

// With an even group half of it is no majority.
func TestMajority(t *testing.T) {
	for _, c := range []struct {
		group []int
		votes int
	}{{[]int{1}, 0}, {[]int{1, 2}, 1}, {[]int{1, 2, 3}, 1}, {[]int{1, 2, 3, 4}, 2}, {[]int{1, 2, 3, 4, 5}, 2}} {
		n := made(t, 1, api.Saved{}, c.group...)
		tick(n, 10)
		for i := range c.votes {
			same(t, "it stands", n.View().Role, api.Stands)
			hears(t, n, vote(2+i, 1, 1, true))
		}
		same(t, "it leads", n.View().Role, api.Leads)
	}
}

// Votes of nodes that are not in its group do not count.
func TestVoteFromOutside(t *testing.T) {
	n := made(t, 1, api.Saved{}, 1, 2, 3)
	tick(n, 10)
	hears(t, n, vote(4, 1, 1, true), vote(5, 1, 1, true))
	stands(t, n, 1, 1, api.Stands, 0, 0, 0)
	hears(t, n, vote(3, 1, 1, true))
	stands(t, n, 1, 1, api.Leads, 1, 0, 1)
}

// A vote is nothing to one that follows or leads.
func TestVoteOfOthers(t *testing.T) {
	l := someNodes(t)
	for _, what := range []string{"follows", "leads"} {
		view := l[what].View()
		hears(t, l[what], vote(2, 1, 4, true), vote(3, 1, 4, true), vote(4, 1, 4, false))
		same(t, what, l[what].View(), view)
		same(t, what, l[what].Take(), api.Out{})
	}
}

func TestLead(t *testing.T) {
	s := api.Saved{Term: 3, Vote: 2, Snap: snapshot(5, 2, "x", 1, 2, 4), Entries: terms(5, 2, 3)}
	n := made(t, 1, s)
	tick(n, 10)
	n.Take()
	hears(t, n, vote(4, 1, 4, true))
	stands(t, n, 4, 1, api.Leads, 1, 5, 8)
	same(t, "Take", n.Take(), api.Out{Put: terms(7, 4), Letters: []api.Letter{bring(1, 2, 4, 7, 3, 5, 1, none(8, 4)), bring(1, 4, 4, 7, 3, 5, 1, none(8, 4))}})
}

// At MaxIndex there is no entry more, so that nothing is committed in its term.
func TestLeadAtMaxIndex(t *testing.T) {
	s := api.Saved{Term: 3, Snap: snapshot(999997, 2, "x", 1, 2), Entries: terms(999997, 3, 3)}
	n := made(t, 1, s)
	tick(n, 10)
	n.Take()
	hears(t, n, vote(2, 1, 4, true))
	stands(t, n, 4, 1, api.Leads, 1, 999997, 999999)
	same(t, "Take", n.Take(), api.Out{Letters: []api.Letter{bring(1, 2, 4, 999999, 3, 999997, 1)}})
	hears(t, n, answer(2, 1, 4, true, 999999, 1))
	same(t, "View", n.View().Commit, 999997)
	same(t, "Take", n.Take(), api.Out{})
	s.Entries = s.Entries[:1]
	n = made(t, 1, s)
	tick(n, 10)
	n.Take()
	hears(t, n, vote(2, 1, 4, true), answer(2, 1, 4, true, 999999, 1))
	same(t, "Take", n.Take(), api.Out{Put: terms(999998, 4), Commit: []api.Entry{none(999998, 3), none(999999, 4)}, Letters: []api.Letter{bring(1, 2, 4, 999998, 3, 999997, 1, none(999999, 4))}})
}

// An older leader's knowledge of others is gone.
func TestLeadAnew(t *testing.T) {
	n := leads(t, api.Saved{}, 1, 2, 3)
	proposes(t, n, "x")
	hears(t, n, answer(2, 1, 1, true, 2, 1<<30))
	stands(t, n, 1, 1, api.Leads, 1, 2, 2)
	tick(n, 20)
	hears(t, n, vote(3, 1, 5, false))
	tick(n, 10)
	hears(t, n, vote(3, 1, 6, true))
	n.Take()
	stands(t, n, 6, 1, api.Leads, 1, 2, 3)
	hears(t, n, answer(2, 1, 6, true, 0, 0), answer(3, 1, 6, true, 3, 1))
	stands(t, n, 6, 1, api.Leads, 1, 3, 3)
	n.Read()
	number, e := n.Read()
	same(t, "Read", []any{number, e}, []any{2, api.OK})
	same(t, "Reads", n.Take().Reads, []api.Ready{}) // of 2 it is not known any more that it heard a greater round
	hears(t, n, answer(2, 1, 6, true, 3, 2))
	same(t, "Reads", n.Take().Reads, []api.Ready{{Number: 1, Index: 3}})
	hears(t, n, answer(3, 1, 6, true, 3, 3))
	same(t, "Reads", n.Take().Reads, []api.Ready{{Number: 2, Index: 3}})
}
