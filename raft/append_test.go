package raft

import (
	"testing"

	"scriptorium/api"
)

// follower is a node 1 in the term 5, with a snapshot at 5 of the term 2, the entries 6 and 7 of the term 2, 8 of 3, 9 of 4, and committed up to 7.
func follower(t *testing.T) *Node {
	t.Helper()
	n := made(t, 1, api.Saved{Term: 5, Vote: 3, Snap: snapshot(5, 2, "x", 1, 2, 3), Entries: terms(5, 2, 2, 3, 4)})
	hears(t, n, bring(2, 1, 5, 7, 2, 7, 1))
	n.Take()
	stands(t, n, 5, 3, api.Follows, 2, 7, 9)
	return n
}

func TestAppend(t *testing.T) {
	for _, c := range []struct {
		index, logTerm, commit int
		entries                []api.Entry
		ok                     bool
		at                     int   // the answer's Index
		terms                  []int // of its entries then
		put                    int   // the first that is another one, if any is
		committed              int
	}{
		// What the snapshot stands for, whatever it is said to be.
		{0, 0, 0, nil, true, 5, []int{2, 2, 3, 4}, 0, 7},
		{0, 5, 99, nil, true, 5, []int{2, 2, 3, 4}, 0, 7},
		{4, 1, 99, nil, true, 5, []int{2, 2, 3, 4}, 0, 7},
		{5, 2, 9, nil, true, 5, []int{2, 2, 3, 4}, 0, 7},
		{5, 4, 9, nil, true, 5, []int{2, 2, 3, 4}, 0, 7},
		{4, 1, 9, terms(4, 5), true, 5, []int{2, 2, 3, 4}, 0, 7},
		{1, 0, 9, terms(1, 1, 1, 1, 5), true, 5, []int{2, 2, 3, 4}, 0, 7},
		// Some of it behind the snapshot: what is ahead is not looked at.
		{4, 1, 7, terms(4, 1, 2, 2), true, 7, []int{2, 2, 3, 4}, 0, 7},
		{2, 0, 9, terms(2, 1, 1, 1, 2), true, 6, []int{2, 2, 3, 4}, 0, 7},
		{4, 0, 8, terms(4, 1, 2, 2, 3), true, 8, []int{2, 2, 3, 4}, 0, 8},
		// Not there, or another one.
		{10, 4, 9, nil, false, 9, nil, 0, 7},
		{10, 0, 9, nil, false, 9, nil, 0, 7},
		{11, 4, 11, terms(11, 4), false, 9, nil, 0, 7},
		{999999, 5, 9, nil, false, 9, nil, 0, 7},
		{9, 3, 9, nil, false, 8, nil, 0, 7},
		{9, 5, 9, terms(9, 5), false, 8, nil, 0, 7},
		{8, 0, 9, nil, false, 7, nil, 0, 7},
		{8, 2, 9, terms(8, 4), false, 7, nil, 0, 7},
		{6, 1, 9, nil, false, 5, nil, 0, 7},
		{6, 3, 9, terms(6, 3), false, 5, nil, 0, 7},
		{5, 1, 9, terms(5, 2), false, 4, nil, 0, 7},
		{5, 0, 9, terms(5, 2, 2, 3), false, 4, nil, 0, 7},
		// All of it there.
		{9, 4, 0, nil, true, 9, nil, 0, 7},
		{9, 4, 8, nil, true, 9, nil, 0, 8},
		{9, 4, 9, nil, true, 9, nil, 0, 9},
		{9, 4, 99, nil, true, 9, nil, 0, 9},
		{7, 2, 9, nil, true, 7, nil, 0, 7},
		{7, 2, 9, terms(7, 3), true, 8, nil, 0, 8},
		{7, 2, 8, terms(7, 3, 4), true, 9, nil, 0, 8},
		{5, 2, 9, terms(5, 2, 2, 3, 4), true, 9, nil, 0, 9},
		{5, 2, 9, terms(5, 2), true, 6, nil, 0, 7},
		// Some of it not there.
		{9, 4, 9, terms(9, 4), true, 10, []int{2, 2, 3, 4, 4}, 10, 9},
		{9, 4, 11, terms(9, 5, 5), true, 11, []int{2, 2, 3, 4, 5, 5}, 10, 11},
		{8, 3, 99, terms(8, 4, 4, 4, 5), true, 12, []int{2, 2, 3, 4, 4, 4, 5}, 10, 12},
		// Some of it another one: what was behind that is gone.
		{8, 3, 8, terms(8, 5), true, 9, []int{2, 2, 3, 5}, 9, 8},
		{7, 2, 9, terms(7, 4), true, 8, []int{2, 2, 4}, 8, 8},
		{7, 2, 0, terms(7, 3, 5, 5), true, 10, []int{2, 2, 3, 5, 5}, 9, 7},
		{5, 2, 0, terms(5, 2, 2, 5), true, 8, []int{2, 2, 5}, 8, 7},
		{3, 0, 0, terms(3, 1, 1, 2, 2), true, 7, nil, 0, 7},
	} {
		n := follower(t)
		m := bring(3, 1, 5, c.index, c.logTerm, c.commit, 77, c.entries...)
		was := n.Saved()
		hears(t, n, m)
		if c.terms == nil {
			c.terms = []int{2, 2, 3, 4}
		}
		was.Entries = terms(5, c.terms...)
		same(t, told(m), n.Saved(), was)
		stands(t, n, 5, 3, api.Follows, 3, c.committed, 5+len(c.terms))
		want := api.Out{Letters: []api.Letter{answer(1, 3, 5, c.ok, c.at, 77)}, Commit: was.Entries[2 : c.committed-5]}
		if c.put > 0 {
			want.Put = was.Entries[c.put-6:]
		}
		same(t, told(m), n.Take(), want)
	}
}

// With nothing there is nothing ahead of the first entry, of no term.
func TestAppendToNothing(t *testing.T) {
	for _, c := range []struct {
		m    api.Letter
		want api.Letter
		last int
	}{
		{bring(2, 1, 3, 0, 0, 0, 1), answer(1, 2, 3, true, 0, 1), 0},
		{bring(2, 1, 3, 0, 2, 9, 1), answer(1, 2, 3, true, 0, 1), 0},
		{bring(2, 1, 3, 0, 0, 0, 1, none(1, 1)), answer(1, 2, 3, true, 1, 1), 1},
		{bring(2, 1, 3, 0, 0, 9, 1, terms(0, 1, 1, 2, 3)...), answer(1, 2, 3, true, 4, 1), 4},
		{bring(2, 1, 3, 0, 1, 9, 1, none(1, 1)), answer(1, 2, 3, false, 0, 1), 0},
		{bring(2, 1, 3, 1, 0, 9, 1), answer(1, 2, 3, false, 0, 1), 0},
		{bring(2, 1, 3, 1, 1, 9, 1, none(2, 1)), answer(1, 2, 3, false, 0, 1), 0},
		{bring(2, 1, 3, 7, 1, 9, 1, none(8, 1)), answer(1, 2, 3, false, 0, 1), 0},
	} {
		n := made(t, 1, api.Saved{Term: 3}, 1, 2)
		hears(t, n, c.m)
		commit := min(c.m.Commit, c.last)
		stands(t, n, 3, 0, api.Follows, 2, commit, c.last)
		writes(t, n, c.want)
	}
}

// The same letter once more, or an elder one, changes nothing.
func TestAppendAgain(t *testing.T) {
	n := made(t, 1, api.Saved{}, 1, 2)
	l := []api.Entry{none(1, 1), command(2, 1, "a"), command(3, 1, "b"), change(4, 1, 1, 2, 3), command(5, 1, "c")}
	first, second := bring(2, 1, 1, 0, 0, 0, 1, l[:3]...), bring(2, 1, 1, 1, 1, 4, 2, l[1:]...)
	hears(t, n, first, second)
	same(t, "Take", n.Take(), api.Out{Hard: true, Term: 1, Put: l, Commit: l[:4], Letters: []api.Letter{answer(1, 2, 1, true, 3, 1), answer(1, 2, 1, true, 5, 2)}})
	hears(t, n, first, second, first)
	same(t, "Take", n.Take(), api.Out{Letters: []api.Letter{answer(1, 2, 1, true, 3, 1), answer(1, 2, 1, true, 5, 2), answer(1, 2, 1, true, 3, 1)}})
	same(t, "Saved", n.Saved(), api.Saved{Term: 1, Entries: l})
	same(t, "Group", n.View().Group, []int{1, 2, 3})
}

// What is committed can't become another one: the letter is refused, though its writer leads.
func TestAppendAgainstCommitted(t *testing.T) {
	for _, c := range []struct {
		index, logTerm int
		entries        []api.Entry
	}{
		{5, 2, terms(5, 3)}, {5, 2, terms(5, 2, 3)}, {6, 2, terms(6, 3)}, {6, 2, terms(6, 5, 5, 5)}, {5, 2, terms(5, 2, 3, 3, 4)}, {3, 0, terms(3, 2, 2, 2, 3)}, {4, 0, terms(4, 1, 1)},
	} {
		for _, term := range []int{5, 6} {
			n := follower(t)
			tick(n, 9)
			saved := n.Saved()
			if e := n.Hear(bring(3, 1, term, c.index, c.logTerm, 99, 7, c.entries...)); e != api.ErrArg {
				t.Errorf("%+v: %v", c, e)
			}
			// It follows the writer all the same, and its clock is 0.
			want := api.Out{}
			if term == 6 {
				saved.Term, saved.Vote = 6, 0
				want = api.Out{Hard: true, Term: 6}
			}
			same(t, "Saved", n.Saved(), saved)
			stands(t, n, term, saved.Vote, api.Follows, 3, 7, 9)
			same(t, "Take", n.Take(), want)
			tick(n, 9)
			stands(t, n, term, saved.Vote, api.Follows, 3, 7, 9)
			tick(n, 1)
			stands(t, n, term+1, 1, api.Stands, 0, 7, 9)
		}
	}
}

// Entries up to commit that are of the same term are no others, whatever else they are.
func TestAppendOfTheSameTerms(t *testing.T) {
	n := follower(t)
	saved := n.Saved()
	hears(t, n, bring(3, 1, 5, 5, 2, 9, 7, command(6, 2, "other"), change(7, 2, 1), command(8, 3, "other")))
	same(t, "Saved", n.Saved(), saved)
	same(t, "Take", n.Take(), api.Out{Letters: []api.Letter{answer(1, 3, 5, true, 8, 7)}, Commit: saved.Entries[2:3]})
}

func TestAppendAndRole(t *testing.T) {
	for what, n := range someNodes(t) {
		if what == "leads" {
			refuses(t, n, bring(2, 1, 4, 7, 3, 8, 7), bring(3, 1, 4, 0, 0, 0, 0), bring(2, 1, 4, 8, 4, 8, 7, none(9, 4)))
			hears(t, n, bring(2, 1, 5, 8, 4, 7, 7))
			stands(t, n, 5, 0, api.Follows, 2, 7, 8)
			continue
		}
		v := n.View()
		hears(t, n, bring(3, 1, 4, 7, 3, 6, 7))
		stands(t, n, 4, v.Vote, api.Follows, 3, 6, v.Last)
		writes(t, n, answer(1, 3, 4, true, 7, 7))
		hears(t, n, vote(2, 1, 4, true), vote(3, 1, 4, true))
		stands(t, n, 4, v.Vote, api.Follows, 3, 6, v.Last)
	}
}

// Whatever is answered, who writes leads, and the clock is 0.
func TestAppendAndClock(t *testing.T) {
	for _, m := range []api.Letter{bring(3, 1, 5, 0, 0, 0, 0), bring(3, 1, 5, 9, 4, 9, 0), bring(3, 1, 5, 99, 4, 9, 0), bring(3, 1, 6, 99, 4, 9, 0), install(3, 1, 5, 0, snapshot(7, 2, "", 1, 3)), install(3, 1, 5, 0, snapshot(20, 2, "", 1, 3)), install(3, 1, 8, 0, snapshot(20, 2, "", 1, 3))} {
		n := follower(t)
		tick(n, 9)
		hears(t, n, m)
		same(t, "Leader", n.View().Leader, 3)
		tick(n, 9)
		same(t, "Role", n.View().Role, api.Follows)
		tick(n, 1)
		same(t, "Role", n.View().Role, api.Stands)
	}
}

// A group holds as soon as its entry is there, and no more when that is gone.
func TestGroupOfEntries(t *testing.T) {
	n := made(t, 1, api.Saved{Term: 1}, 1, 2)
	hears(t, n, bring(2, 1, 1, 0, 0, 0, 1, none(1, 1), change(2, 1, 1, 2, 3), none(3, 1)))
	same(t, "Group", n.View().Group, []int{1, 2, 3})
	hears(t, n, bring(2, 1, 2, 3, 1, 0, 1, change(4, 1, 2, 3), change(5, 1, 2, 3, 4)))
	same(t, "Group", n.View().Group, []int{2, 3, 4})
	hears(t, n, bring(3, 1, 3, 4, 1, 0, 1, none(5, 3)))
	same(t, "Group", n.View().Group, []int{2, 3})
	hears(t, n, bring(3, 1, 4, 2, 1, 0, 1, none(3, 4)))
	same(t, "Group", n.View().Group, []int{1, 2, 3})
	hears(t, n, bring(3, 1, 5, 0, 0, 0, 1, none(1, 5)))
	same(t, "Group", n.View().Group, []int{1, 2})
}

func TestInstall(t *testing.T) {
	for _, c := range []struct {
		x     api.Snap
		new   bool
		terms []int
	}{
		{snapshot(1, 1, "y", 1), false, nil}, {snapshot(5, 2, "y", 1), false, nil}, {snapshot(6, 2, "y", 1), false, nil}, {snapshot(7, 5, "y", 1), false, nil},
		{snapshot(8, 3, "y", 1, 4), true, []int{4}}, {snapshot(8, 2, "y", 1, 4), true, nil}, {snapshot(8, 4, "y", 1, 4), true, nil}, {snapshot(8, 0, "y", 1, 4), true, nil},
		{snapshot(9, 4, "y", 4, 5), true, nil}, {snapshot(9, 5, "", 4), true, nil}, {snapshot(10, 4, "y", 1), true, nil}, {snapshot(10, 0, "y", 1), true, nil},
		{snapshot(999998, 5, "y", 1, 2, 3, 4, 5), true, nil},
	} {
		n := follower(t)
		saved := n.Saved()
		hears(t, n, install(3, 1, 5, 66, c.x))
		if !c.new {
			same(t, "Saved", n.Saved(), saved)
			stands(t, n, 5, 3, api.Follows, 3, 7, 9)
			same(t, "Take", n.Take(), api.Out{Letters: []api.Letter{answer(1, 3, 5, true, 7, 66)}})
			continue
		}
		same(t, "Saved", n.Saved(), api.Saved{Term: 5, Vote: 3, Snap: c.x, Entries: terms(c.x.Index, c.terms...)})
		same(t, "View", n.View(), api.View{Term: 5, Vote: 3, Leader: 3, First: c.x.Index, Commit: c.x.Index, Last: c.x.Index + len(c.terms), Group: c.x.Nodes})
		same(t, "Take", n.Take(), api.Out{Install: true, Snap: c.x, Letters: []api.Letter{answer(1, 3, 5, true, c.x.Index, 66)}})
		same(t, "Take", n.Take(), api.Out{})
	}
}

// Behind a snapshot the entries that are kept may name the group.
func TestInstallAndGroup(t *testing.T) {
	n := made(t, 1, api.Saved{Term: 2, Entries: []api.Entry{none(1, 1), change(2, 1, 1, 2), change(3, 1, 1, 2, 3)}}, 1)
	hears(t, n, install(2, 1, 2, 1, snapshot(2, 1, "", 1, 2)))
	same(t, "Group", n.View().Group, []int{1, 2, 3})
	hears(t, n, bring(2, 1, 3, 2, 1, 2, 1, none(3, 3)))
	same(t, "Group", n.View().Group, []int{1, 2})
	hears(t, n, install(2, 1, 4, 1, snapshot(9, 1, "", 4, 5)))
	same(t, "Group", n.View().Group, []int{4, 5})
}

func TestInstallAndRole(t *testing.T) {
	x := snapshot(20, 4, "y", 1, 3)
	for what, n := range someNodes(t) {
		v := n.View()
		if what == "leads" {
			refuses(t, n, install(2, 1, 4, 1, x), install(3, 1, 4, 1, snapshot(1, 1, "", 1)))
			hears(t, n, install(3, 1, 5, 1, x))
			stands(t, n, 5, 0, api.Follows, 3, 20, 20)
			continue
		}
		hears(t, n, install(3, 1, 4, 1, x))
		stands(t, n, 4, v.Vote, api.Follows, 3, 20, 20)
		hears(t, n, vote(2, 1, 4, true), vote(3, 1, 4, true))
		stands(t, n, 4, v.Vote, api.Follows, 3, 20, 20)
	}
}

// What a snapshot was installed for is not told as entries; what is behind it is, and is put if it is new.
func TestInstallAndTake(t *testing.T) {
	for _, c := range []struct {
		x           api.Snap
		put, commit []api.Entry
	}{
		{snapshot(10, 4, "y", 1), []api.Entry{none(11, 5), none(12, 5)}, []api.Entry{none(11, 5)}},
		{snapshot(11, 5, "y", 1), []api.Entry{none(12, 5)}, nil},
		{snapshot(12, 5, "y", 1), nil, nil},
		{snapshot(11, 4, "y", 1), nil, nil},
	} {
		n := follower(t)
		hears(t, n, bring(3, 1, 5, 9, 4, 0, 1, none(10, 4), none(11, 5), none(12, 5)), bring(3, 1, 5, 8, 3, 8, 1), install(3, 1, 5, 1, c.x))
		last := n.View().Last
		if last > 11 {
			hears(t, n, bring(3, 1, 5, c.x.Index, c.x.Term, 11, 1), bring(3, 1, 5, 11, 5, 11, 1))
		}
		o := n.Take()
		o.Letters = nil
		same(t, told(c.x), o, api.Out{Install: true, Snap: c.x, Put: c.put, Commit: c.commit})
	}
}

// Of two snapshots the last one is told.
func TestInstallTwice(t *testing.T) {
	n := follower(t)
	x, y := snapshot(20, 3, "x", 1), snapshot(21, 4, "y", 2)
	hears(t, n, install(3, 1, 5, 1, x), bring(3, 1, 5, 20, 3, 0, 2, none(21, 4), none(22, 4)), install(3, 1, 5, 3, y), install(3, 1, 5, 4, x))
	l := []api.Letter{answer(1, 3, 5, true, 20, 1), answer(1, 3, 5, true, 22, 2), answer(1, 3, 5, true, 21, 3), answer(1, 3, 5, true, 21, 4)}
	same(t, "Take", n.Take(), api.Out{Install: true, Snap: y, Put: []api.Entry{none(22, 4)}, Letters: l})
}

// What was put, and is gone by a snapshot, is put once more when it comes again.
func TestPutBehindInstall(t *testing.T) {
	n := follower(t)
	hears(t, n, install(3, 1, 5, 1, snapshot(8, 4, "y", 1)), bring(3, 1, 5, 8, 4, 9, 1, none(9, 4)))
	o := n.Take()
	o.Letters = nil
	same(t, "Take", o, api.Out{Install: true, Snap: snapshot(8, 4, "y", 1), Put: []api.Entry{none(9, 4)}, Commit: []api.Entry{none(9, 4)}})
}
