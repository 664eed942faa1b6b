package raft

import (
	"testing"

	"scriptorium/api"
)

// leader is a node 1 of three that leads in the term 3, with the snapshot at 5, entries of the terms 2 up to 7, 3 up to 12; nothing behind 5 is committed.
func leader(t *testing.T) *Node {
	t.Helper()
	n := leads(t, api.Saved{Term: 2, Snap: snapshot(5, 2, "x", 1, 2, 3), Entries: terms(5, 2, 2)}, 1)
	for range 4 {
		proposes(t, n, "x")
	}
	n.Take()
	stands(t, n, 3, 1, api.Leads, 1, 5, 12)
	return n
}

// entriesOf are those of a node behind an Index, at most so many.
func entriesOf(n *Node, index, most int) []api.Entry {
	l := n.Saved().Entries[index-n.View().First:]
	return l[:min(most, len(l))]
}

func TestAnswerOk(t *testing.T) {
	for _, c := range []struct {
		index, commit, next int // next is 0 if nothing is written
	}{
		{0, 5, 0}, {4, 5, 5}, {5, 5, 6}, {6, 5, 7}, {7, 5, 8}, {8, 8, 9}, {9, 9, 10}, {11, 11, 12}, {12, 12, 0},
	} {
		n := leader(t)
		hears(t, n, answer(2, 1, 3, true, c.index, 1))
		stands(t, n, 3, 1, api.Leads, 1, c.commit, 12)
		want := api.Out{Commit: entriesOf(n, 5, c.commit-5)}
		switch {
		case c.index < 5:
			want.Letters = []api.Letter{install(1, 2, 3, 1, snapshot(5, 2, "x", 1, 2, 3))}
		case c.next > 0:
			want.Letters = []api.Letter{bring(1, 2, 3, c.index, n.Saved().Entries[max(0, c.index-6)].Term, c.commit, 1, entriesOf(n, c.index, 4)...)}
		}
		same(t, "Take", n.Take(), want)
	}
}

// It has what the greatest Index said, though elder answers come behind that.
func TestAnswersInAnyOrder(t *testing.T) {
	n := leader(t)
	hears(t, n, answer(2, 1, 3, true, 9, 1))
	n.Take()
	hears(t, n, answer(2, 1, 3, true, 6, 1))
	writes(t, n, bring(1, 2, 3, 9, 3, 9, 1, entriesOf(n, 9, 4)...))
	hears(t, n, answer(2, 1, 3, false, 3, 1))
	writes(t, n, bring(1, 2, 3, 9, 3, 9, 1, entriesOf(n, 9, 4)...))
	hears(t, n, answer(2, 1, 3, true, 12, 1), answer(2, 1, 3, true, 12, 1), answer(2, 1, 3, true, 9, 1), answer(2, 1, 3, true, 5, 1))
	writes(t, n)
	stands(t, n, 3, 1, api.Leads, 1, 12, 12)
}

// Who says that it has more than there is, is wrong: not even its round is heard.
func TestAnswerAboveLast(t *testing.T) {
	n := leader(t)
	hears(t, n, answer(2, 1, 3, true, 8, 1))
	n.Read()
	n.Take()
	refuses(t, n, answer(2, 1, 3, true, 13, 2), answer(3, 1, 3, true, 999999, 2))
	hears(t, n, answer(2, 1, 3, true, 12, 2))
	same(t, "Reads", n.Take().Reads, []api.Ready{{Number: 1, Index: 8}})
	hears(t, n, answer(2, 1, 3, false, 13, 2), answer(3, 1, 3, false, 999999, 2))
	stands(t, n, 3, 1, api.Leads, 1, 12, 12)
}

func TestAnswerNotOk(t *testing.T) {
	for _, c := range []struct {
		indexes []int
		want    int // the Index of the letter behind the last one
	}{
		{[]int{999999}, 6}, {[]int{12}, 6}, {[]int{7}, 6}, {[]int{6}, 6}, {[]int{5}, 5}, {[]int{999999, 999999}, 5}, {[]int{999999, 6}, 5},
		{[]int{4}, 4}, {[]int{0}, 0}, {[]int{999999, 999999, 999999}, 4}, {[]int{5, 5}, 4}, {[]int{0, 0}, 0}, {[]int{0, 0, 7}, 0}, {[]int{2, 7}, 1},
	} {
		n := leader(t)
		for _, i := range c.indexes {
			n.Take()
			hears(t, n, answer(3, 1, 3, false, i, 1))
		}
		stands(t, n, 3, 1, api.Leads, 1, 5, 12)
		if c.want < 5 {
			writes(t, n, install(1, 3, 3, 1, snapshot(5, 2, "x", 1, 2, 3)))
		} else {
			writes(t, n, bring(1, 3, 3, c.want, 2, 5, 1, entriesOf(n, c.want, 4)...))
		}
	}
}

// Of what it knows that a node has, nothing is brought anew.
func TestAnswerNotOkAboveHas(t *testing.T) {
	for _, c := range []struct{ index, want int }{{0, 8}, {7, 8}, {8, 8}, {9, 8}, {12, 8}} {
		n := leader(t)
		hears(t, n, answer(3, 1, 3, true, 8, 1))
		n.Take()
		hears(t, n, answer(3, 1, 3, false, c.index, 1))
		writes(t, n, bring(1, 3, 3, c.want, 3, 8, 1, entriesOf(n, c.want, 4)...))
	}
}

// Next goes down to the first Index of all, and no further.
func TestAnswerNotOkDown(t *testing.T) {
	n := leads(t, api.Saved{Term: 1, Entries: terms(0, 1, 1)}, 1, 2)
	for _, want := range []int{1, 0, 0, 0} {
		hears(t, n, answer(2, 1, 2, false, 999999, 1))
		logTerm := min(want, 1)
		writes(t, n, bring(1, 2, 2, want, logTerm, 0, 1, entriesOf(n, want, 4)...))
	}
}

// Batches have four entries at most.
func TestBatch(t *testing.T) {
	n := leads(t, api.Saved{}, 1, 2)
	for range 10 {
		proposes(t, n, "x")
	}
	n.Take()
	for _, c := range []struct{ index, count int }{{1, 4}, {2, 4}, {6, 4}, {7, 4}, {8, 3}, {9, 2}, {10, 1}} {
		hears(t, n, answer(2, 1, 1, true, c.index, 1))
		l := n.Take().Letters
		if len(l) != 1 || l[0].Index != c.index || len(l[0].Entries) != c.count {
			t.Errorf("behind %d: %+v", c.index, l)
		}
	}
}

// To one that does not lead answers are nothing, be they right or not.
func TestAnswerToOthers(t *testing.T) {
	l := someNodes(t)
	for _, what := range []string{"follows", "stands"} {
		view := l[what].View()
		hears(t, l[what], answer(2, 1, 4, true, 7, 1), answer(2, 1, 4, true, 999999, 1), answer(3, 1, 4, false, 0, 1))
		same(t, what, l[what].View(), view)
		same(t, what, l[what].Take(), api.Out{})
	}
}

// What was committed in older terms is committed with the first entry of the own term alone.
func TestCommitOfOwnTerm(t *testing.T) {
	n := leads(t, api.Saved{Term: 4, Entries: terms(0, 1, 2, 4)}, 1, 2, 3)
	hears(t, n, answer(2, 1, 5, true, 3, 1), answer(3, 1, 5, true, 3, 1))
	stands(t, n, 5, 1, api.Leads, 1, 0, 4)
	hears(t, n, answer(3, 1, 5, true, 4, 1))
	stands(t, n, 5, 1, api.Leads, 1, 4, 4)
	same(t, "Commit", n.Take().Commit, terms(0, 1, 2, 4, 5))
}

// A majority is one of the group: half of it is none, and others do not count.
func TestCommitOfAMajority(t *testing.T) {
	for _, c := range []struct {
		group  []int
		has    map[int]int
		commit int
	}{
		{[]int{1, 2}, map[int]int{3: 3, 4: 3, 5: 3}, 0}, {[]int{1, 2}, map[int]int{2: 2}, 2},
		{[]int{1, 2, 3}, map[int]int{4: 3, 5: 3}, 0}, {[]int{1, 2, 3}, map[int]int{2: 3}, 3}, {[]int{1, 2, 3}, map[int]int{2: 1, 3: 2}, 2},
		{[]int{1, 2, 3, 4}, map[int]int{2: 3}, 0}, {[]int{1, 2, 3, 4}, map[int]int{2: 3, 5: 3}, 0}, {[]int{1, 2, 3, 4}, map[int]int{2: 3, 3: 1}, 1}, {[]int{1, 2, 3, 4}, map[int]int{2: 3, 3: 1, 4: 2}, 2},
		{[]int{1, 2, 3, 4, 5}, map[int]int{2: 3}, 0}, {[]int{1, 2, 3, 4, 5}, map[int]int{2: 3, 5: 2}, 2}, {[]int{1, 2, 3, 4, 5}, map[int]int{2: 1, 3: 1, 4: 3, 5: 2}, 2}, {[]int{1, 2, 3, 4, 5}, map[int]int{2: 3, 3: 3, 4: 3, 5: 3}, 3},
	} {
		n := leads(t, api.Saved{}, c.group...)
		proposes(t, n, "a")
		proposes(t, n, "b")
		for node := 2; node <= 5; node++ {
			if c.has[node] > 0 {
				hears(t, n, answer(node, 1, 1, true, c.has[node], 1))
			}
		}
		same(t, told(c), n.View().Commit, c.commit)
	}
}

// A node outside the group is written to when it answers, as any other.
func TestAnswerFromOutside(t *testing.T) {
	n := leader(t)
	hears(t, n, answer(5, 1, 3, true, 9, 1))
	writes(t, n, bring(1, 5, 3, 9, 3, 5, 1, entriesOf(n, 9, 4)...))
	hears(t, n, answer(4, 1, 3, false, 7, 1))
	writes(t, n, bring(1, 4, 3, 6, 2, 5, 1, entriesOf(n, 6, 4)...))
	stands(t, n, 3, 1, api.Leads, 1, 5, 12)
	hears(t, n, answer(2, 1, 3, true, 12, 1))
	n.Take()
	if _, _, e := n.Propose(api.KindNodes, nil, []int{1, 2, 3, 5}); e != api.OK {
		t.Fatal(e)
	}
	l := n.Take().Letters
	same(t, "to the new one, behind what it has", l[len(l)-1], bring(1, 5, 3, 9, 3, 12, 1, entriesOf(n, 9, 4)...))
}

// Where the group does not have its leader any more, that leads till this is committed, and counts itself no more.
func TestLeavingLeader(t *testing.T) {
	n := leads(t, api.Saved{}, 1, 2, 3)
	hears(t, n, answer(2, 1, 1, true, 1, 1))
	n.Read()
	if i, term, e := n.Propose(api.KindNodes, nil, []int{2, 3}); i != 2 || term != 1 || e != api.OK {
		t.Fatal(i, term, e)
	}
	n.Take()
	stands(t, n, 1, 1, api.Leads, 1, 1, 2)
	hears(t, n, answer(2, 1, 1, true, 2, 1))
	stands(t, n, 1, 1, api.Leads, 1, 1, 2)
	proposes(t, n, "x")
	tick(n, 3)
	same(t, "Letters", len(n.Take().Letters), 4)
	hears(t, n, answer(2, 1, 1, true, 3, 3))
	stands(t, n, 1, 1, api.Leads, 1, 1, 3)
	same(t, "2 alone heard", n.Take().Reads, []api.Ready{})
	hears(t, n, answer(3, 1, 1, false, 0, 2))
	same(t, "2 and 3 heard", n.Take().Reads, []api.Ready{{Number: 1, Index: 1}})
	n.Read()
	n.Take()
	hears(t, n, answer(3, 1, 1, true, 2, 3))
	stands(t, n, 1, 1, api.Follows, 0, 2, 3)
	same(t, "it left", n.Take(), api.Out{Commit: []api.Entry{change(2, 1, 2, 3)}})
	hears(t, n, answer(3, 1, 1, true, 3, 4), answer(2, 1, 1, true, 3, 4))
	tick(n, 100)
	stands(t, n, 1, 1, api.Follows, 0, 2, 3)
	same(t, "Take", n.Take(), api.Out{})
}
