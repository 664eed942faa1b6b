package raft

import (
	"math"
	"strings"
	"testing"

	"scriptorium/api"
)

// proposal is what Propose is handed.
type proposal struct {
	kind  int
	data  []byte
	nodes []int
}

// denies: it answers these with this error, and is as it was.
func denies(t *testing.T, n *Node, want api.Errno, l ...proposal) {
	t.Helper()
	view, saved := n.View(), n.Saved()
	for _, p := range l {
		index, term, e := n.Propose(p.kind, p.data, p.nodes)
		same(t, told(p.kind)+told(p.nodes), []any{index, term, e}, []any{0, 0, want})
	}
	same(t, "View", n.View(), view)
	same(t, "Saved", n.Saved(), saved)
	same(t, "Take", n.Take(), api.Out{})
}

func TestPropose(t *testing.T) {
	n := leader(t)
	l := n.Saved().Entries
	for i, data := range [][]byte{nil, {}, []byte("x"), []byte("\x00\xff"), make([]byte, 8000)} {
		index, term, e := n.Propose(api.KindCommand, data, [][]int{nil, {}}[i%2])
		same(t, "Propose", []any{index, term, e}, []any{13 + i, 3, api.OK})
		l = append(l, command(13+i, 3, string(data)))
		same(t, "Take", n.Take(), api.Out{Put: l[7+i:], Letters: []api.Letter{bring(1, 2, 3, 7, 2, 5, 1, l[2:6]...), bring(1, 3, 3, 7, 2, 5, 1, l[2:6]...)}})
	}
	same(t, "Saved", n.Saved().Entries, l)
	stands(t, n, 3, 1, api.Leads, 1, 5, 17)
}

func TestProposeWrong(t *testing.T) {
	wrong := []proposal{
		{api.KindNone, nil, nil}, {3, nil, nil}, {-1, nil, nil}, {257, nil, nil}, {math.MaxInt, nil, nil}, {math.MinInt, nil, nil},
		{api.KindCommand, make([]byte, 8001), nil}, {api.KindCommand, nil, []int{1}}, {api.KindCommand, []byte("x"), []int{1, 2, 3, 4}},
		{api.KindNodes, nil, nil}, {api.KindNodes, nil, []int{}}, {api.KindNodes, nil, []int{0, 1, 2, 3}}, {api.KindNodes, nil, []int{1, 2, 3, 6}}, {api.KindNodes, nil, []int{2, 1}}, {api.KindNodes, nil, []int{1, 1, 2, 3}}, {api.KindNodes, []byte("x"), []int{1, 2}},
	}
	n := leader(t)
	denies(t, n, api.ErrArg, wrong...)
	hears(t, n, answer(2, 1, 3, true, 12, 1))
	n.Take()
	denies(t, n, api.ErrArg, wrong...)
	for range 32 {
		proposes(t, n, "x")
	}
	n.Take()
	denies(t, n, api.ErrArg, wrong...)
}

func TestProposeToOthers(t *testing.T) {
	l := someNodes(t)
	for _, what := range []string{"follows", "stands"} {
		denies(t, l[what], api.ErrLeads, proposal{api.KindCommand, []byte("x"), nil}, proposal{api.KindNodes, nil, []int{1, 2}}, proposal{api.KindNone, nil, nil}, proposal{9, nil, nil})
		number, e := l[what].Read()
		same(t, "Read", []any{number, e}, []any{0, api.ErrLeads})
		same(t, "Take", l[what].Take(), api.Out{})
	}
}

func TestProposeAhead(t *testing.T) {
	n := leader(t) // seven are ahead
	for range 25 {
		proposes(t, n, "x")
	}
	n.Take()
	stands(t, n, 3, 1, api.Leads, 1, 5, 37)
	denies(t, n, api.ErrBusy, proposal{api.KindCommand, []byte("x"), nil}, proposal{api.KindNodes, nil, []int{1, 2}})
	hears(t, n, answer(2, 1, 3, true, 8, 1))
	for range 3 {
		proposes(t, n, "x")
	}
	n.Take()
	stands(t, n, 3, 1, api.Leads, 1, 8, 40)
	denies(t, n, api.ErrBusy, proposal{api.KindCommand, []byte("x"), nil}, proposal{api.KindNodes, nil, []int{1}})
}

// Entries of older terms are ahead, too; the leader's own first one comes all the same.
func TestProposeFarAhead(t *testing.T) {
	many := make([]int, 40)
	for i := range many {
		many[i] = 1
	}
	n := leads(t, api.Saved{Term: 1, Entries: terms(0, many...)}, 1, 2)
	stands(t, n, 2, 1, api.Leads, 1, 0, 41)
	denies(t, n, api.ErrBusy, proposal{api.KindCommand, nil, nil})
	hears(t, n, answer(2, 1, 2, true, 40, 1))
	n.Take()
	denies(t, n, api.ErrBusy, proposal{api.KindCommand, nil, nil})
	hears(t, n, answer(2, 1, 2, true, 41, 1))
	proposes(t, n, "x")
}

func TestProposeAtMaxIndex(t *testing.T) {
	s := api.Saved{Term: 3, Snap: snapshot(999990, 2, "x", 1, 2), Entries: terms(999990, 3, 3)}
	n := leads(t, s)
	stands(t, n, 4, 1, api.Leads, 1, 999990, 999993)
	for i := range 6 {
		index, term, e := n.Propose(api.KindCommand, nil, nil)
		same(t, "Propose", []any{index, term, e}, []any{999994 + i, 4, api.OK})
	}
	n.Take()
	denies(t, n, api.ErrMany, proposal{api.KindCommand, nil, nil}, proposal{api.KindNodes, nil, []int{1}}, proposal{api.KindNodes, nil, []int{4}})
	denies(t, n, api.ErrArg, proposal{api.KindNone, nil, nil}, proposal{api.KindNodes, nil, []int{1, 1}})
	hears(t, n, answer(2, 1, 4, true, 999999, 1))
	stands(t, n, 4, 1, api.Leads, 1, 999999, 999999)
	same(t, "Commit", len(n.Take().Commit), 9)
	denies(t, n, api.ErrMany, proposal{api.KindCommand, nil, nil}, proposal{api.KindNodes, nil, []int{1}})
	s.Snap.Index, s.Entries = 999950, nil
	for i := range 49 {
		s.Entries = append(s.Entries, none(999951+i, 3))
	}
	n = leads(t, s)
	stands(t, n, 4, 1, api.Leads, 1, 999950, 999999)
	denies(t, n, api.ErrMany, proposal{api.KindCommand, nil, nil})
}

func TestChange(t *testing.T) {
	groups := [][]int{{1}, {1, 2}, {1, 5}, {1, 2, 3}, {1, 3, 4}, {1, 2, 3, 4}, {1, 2, 3, 5}, {1, 2, 3, 4, 5}, {2}, {2, 3}, {2, 3, 4}, {2, 3, 4, 5}, {3, 4, 5}}
	next := map[string]string{
		"[1]": " [1 2] [1 5] ", "[1 2]": " [1] [2] [1 2 3] ", "[1 5]": " [1] ",
		"[1 2 3]": " [1 2] [2 3] [1 2 3 4] [1 2 3 5] ", "[1 3 4]": " [1 2 3 4] ",
		"[1 2 3 4]": " [1 2 3] [1 3 4] [2 3 4] [1 2 3 4 5] ", "[1 2 3 5]": " [1 2 3] [1 2 3 4 5] ",
		"[1 2 3 4 5]": " [1 2 3 4] [1 2 3 5] [2 3 4 5] ",
	}
	count := 0
	for _, group := range groups[:8] {
		for _, nodes := range groups {
			n := made(t, 1, api.Saved{}, group...)
			tick(n, 10)
			for _, node := range group[1:] {
				hears(t, n, vote(node, 1, 1, true))
			}
			for _, node := range group[1:] {
				hears(t, n, answer(node, 1, 1, true, 1, 1))
			}
			n.Take()
			stands(t, n, 1, 1, api.Leads, 1, 1, 1)
			if !strings.Contains(next[told(group)], " "+told(nodes)+" ") {
				denies(t, n, api.ErrArg, proposal{api.KindNodes, nil, nodes})
				continue
			}
			count++
			index, term, e := n.Propose(api.KindNodes, []byte{}, nodes)
			same(t, "Propose", []any{index, term, e}, []any{2, 1, api.OK})
			same(t, "Group", n.View().Group, nodes)
			o := n.Take()
			same(t, "Put", o.Put, []api.Entry{change(2, 1, nodes...)})
			var to []int
			for _, m := range o.Letters {
				to = append(to, m.To)
			}
			want := nodes
			if want[0] == 1 {
				want = want[1:]
			}
			same(t, "letters to", to, want)
		}
	}
	same(t, "changes", count, 20)
}

func TestChangeBusy(t *testing.T) {
	n := leader(t)
	four, two := proposal{api.KindNodes, nil, []int{1, 2, 3, 4}}, proposal{api.KindNodes, nil, []int{1, 2}}
	denies(t, n, api.ErrBusy, four, two, proposal{api.KindNodes, nil, []int{1}})
	hears(t, n, answer(2, 1, 3, true, 7, 1))
	n.Take()
	denies(t, n, api.ErrBusy, four, two)
	hears(t, n, answer(2, 1, 3, true, 8, 1))
	n.Take()
	if index, _, e := n.Propose(four.kind, four.data, four.nodes); index != 13 || e != api.OK {
		t.Fatal(index, e)
	}
	n.Take()
	denies(t, n, api.ErrBusy, four, two, proposal{api.KindNodes, nil, []int{1, 2, 3}}, proposal{api.KindNodes, nil, []int{1, 2, 3, 4, 5}}, proposal{api.KindNodes, nil, []int{5}})
	proposes(t, n, "x")
	n.Take()
	hears(t, n, answer(2, 1, 3, true, 12, 1), answer(3, 1, 3, true, 12, 1))
	n.Take()
	denies(t, n, api.ErrBusy, proposal{api.KindNodes, nil, []int{1, 2, 3}})
	hears(t, n, answer(2, 1, 3, true, 13, 1))
	n.Take()
	denies(t, n, api.ErrBusy, proposal{api.KindNodes, nil, []int{1, 2, 3}})
	hears(t, n, answer(3, 1, 3, true, 13, 1))
	n.Take()
	denies(t, n, api.ErrArg, four, two)
	if index, _, e := n.Propose(api.KindNodes, nil, []int{1, 2, 3}); index != 15 || e != api.OK {
		t.Fatal(index, e)
	}
}

// A new leader changes nothing till an entry of its term is committed, be a change of others under way or not.
func TestChangeOfNewLeader(t *testing.T) {
	n := leads(t, api.Saved{Term: 1, Entries: []api.Entry{none(1, 1), change(2, 1, 1, 2)}}, 1)
	same(t, "Group", n.View().Group, []int{1, 2})
	denies(t, n, api.ErrBusy, proposal{api.KindNodes, nil, []int{1, 2, 3}})
	hears(t, n, answer(2, 1, 2, true, 3, 1))
	stands(t, n, 2, 1, api.Leads, 1, 3, 3)
	n.Take()
	if _, _, e := n.Propose(api.KindNodes, nil, []int{1, 2, 3}); e != api.OK {
		t.Error(e)
	}
}

// A change is counted by the new group, at once.
func TestChangeCounts(t *testing.T) {
	n := leads(t, api.Saved{}, 1)
	stands(t, n, 1, 1, api.Leads, 1, 1, 1)
	n.Propose(api.KindNodes, nil, []int{1, 2})
	stands(t, n, 1, 1, api.Leads, 1, 1, 2)
	hears(t, n, answer(2, 1, 1, true, 2, 1))
	stands(t, n, 1, 1, api.Leads, 1, 2, 2)
	n.Propose(api.KindNodes, nil, []int{1})
	stands(t, n, 1, 1, api.Leads, 1, 3, 3)
	same(t, "Commit", n.Take().Commit, []api.Entry{change(2, 1, 1, 2), change(3, 1, 1)})
}

// A node that was there from the first on is written to from where it stands when it comes into the group.
func TestChangeBringsIn(t *testing.T) {
	n := leads(t, api.Saved{Term: 2, Entries: terms(0, 1, 2)}, 1)
	stands(t, n, 3, 1, api.Leads, 1, 3, 3)
	proposes(t, n, "a")
	n.Propose(api.KindNodes, nil, []int{1, 4})
	l := n.Saved().Entries
	writes(t, n, bring(1, 4, 3, 2, 2, 4, 1, l[2:]...))
	hears(t, n, answer(4, 1, 3, false, 0, 1))
	writes(t, n, bring(1, 4, 3, 0, 0, 4, 1, l[:4]...))
}

func TestRead(t *testing.T) {
	n := leads(t, api.Saved{}, 1, 2, 3)
	hears(t, n, answer(2, 1, 1, true, 1, 1))
	n.Take()
	for i := 1; i <= 3; i++ {
		proposes(t, n, "x")
		n.Take()
		number, e := n.Read()
		same(t, "Read", []any{number, e}, []any{i, api.OK})
		l := n.Saved().Entries
		writes(t, n, bring(1, 2, 1, 1, 1, 1, 1+i, l[1:]...), bring(1, 3, 1, 0, 0, 1, 1+i, l[:min(4, len(l))]...))
	}
	hears(t, n, answer(2, 1, 1, true, 3, 1))
	same(t, "heard 1", n.Take().Reads, []api.Ready{})
	n.Read()
	hears(t, n, answer(3, 1, 1, true, 1, 3))
	same(t, "heard 3", n.Take().Reads, []api.Ready{{Number: 1, Index: 1}, {Number: 2, Index: 1}})
	hears(t, n, answer(3, 1, 1, true, 1, 3), answer(2, 1, 1, true, 3, 2))
	same(t, "heard 3 still", n.Take().Reads, []api.Ready{})
	hears(t, n, answer(2, 1, 1, true, 2, 1<<30))
	same(t, "heard all", n.Take().Reads, []api.Ready{{Number: 3, Index: 1}, {Number: 4, Index: 3}})
	hears(t, n, answer(3, 1, 1, true, 4, 1<<30))
	same(t, "none waits", n.Take().Reads, []api.Ready{})
}

// Of four two others must have heard, and none from outside counts.
func TestReadOfAMajority(t *testing.T) {
	n := leads(t, api.Saved{}, 1, 2, 3, 4)
	hears(t, n, answer(2, 1, 1, true, 1, 1), answer(3, 1, 1, true, 1, 1))
	n.Read()
	n.Take()
	hears(t, n, answer(2, 1, 1, true, 1, 2), answer(5, 1, 1, true, 1, 2), answer(3, 1, 1, true, 1, 1))
	same(t, "Reads", n.Take().Reads, []api.Ready{})
	hears(t, n, answer(4, 1, 1, false, 0, 2))
	same(t, "Reads", n.Take().Reads, []api.Ready{{Number: 1, Index: 1}})
}

// Nothing is read ahead of the first entry of the own term.
func TestReadBusyAtFirst(t *testing.T) {
	n := leads(t, api.Saved{Term: 2, Entries: terms(0, 2, 2)}, 1, 2)
	for _, i := range []int{0, 1, 2} {
		hears(t, n, answer(2, 1, 3, true, i, 9))
		n.Take()
		number, e := n.Read()
		same(t, "Read", []any{number, e}, []any{0, api.ErrBusy})
		same(t, "Take", n.Take(), api.Out{})
	}
	hears(t, n, answer(2, 1, 3, true, 3, 1))
	number, e := n.Read()
	same(t, "Read", []any{number, e}, []any{1, api.OK})
}

func TestReadBusy(t *testing.T) {
	n := leads(t, api.Saved{}, 1, 2, 3)
	hears(t, n, answer(2, 1, 1, true, 1, 1))
	n.Take()
	var want []api.Ready
	for i := 1; i <= 32; i++ {
		number, e := n.Read()
		same(t, "Read", []any{number, e}, []any{i, api.OK})
		want = append(want, api.Ready{Number: i, Index: 1})
	}
	n.Take()
	for range 3 {
		number, e := n.Read()
		same(t, "Read", []any{number, e}, []any{0, api.ErrBusy})
	}
	same(t, "Take", n.Take(), api.Out{})
	hears(t, n, answer(2, 1, 1, true, 1, 2)) // the round of the first one
	number, e := n.Read()
	same(t, "Read", []any{number, e}, []any{33, api.OK})
	number, e = n.Read()
	same(t, "Read", []any{number, e}, []any{0, api.ErrBusy})
	same(t, "Reads", n.Take().Reads, want[:1])
	hears(t, n, answer(2, 1, 1, true, 1, 33))
	same(t, "Reads", n.Take().Reads, want[1:])
	hears(t, n, answer(2, 1, 1, true, 1, 34))
	same(t, "Reads", n.Take().Reads, []api.Ready{{Number: 33, Index: 1}})
}

// Those that are ready wait no more, be they taken or not.
func TestReadyDoesNotWait(t *testing.T) {
	n := leads(t, api.Saved{}, 1)
	for i := 1; i <= 100; i++ {
		number, e := n.Read()
		same(t, "Read", []any{number, e}, []any{i, api.OK})
	}
	l := n.Take().Reads
	same(t, "Reads", []any{len(l), l[0], l[99]}, []any{100, api.Ready{Number: 1, Index: 1}, api.Ready{Number: 100, Index: 1}})
	same(t, "Take", n.Take(), api.Out{})
}

// What is ready is told, though it leads no more; what waits is gone, and its number is not given again.
func TestReadsAreGone(t *testing.T) {
	for _, end := range []func(n *Node){
		func(n *Node) { hears(t, n, vote(2, 1, 7, false)) },
		func(n *Node) { hears(t, n, ask(3, 1, 7, 9, 2)) },
		func(n *Node) { hears(t, n, bring(2, 1, 7, 1, 1, 1, 9)) },
		func(n *Node) { hears(t, n, install(2, 1, 7, 1, snapshot(1, 1, "", 1, 2, 3))) },
		func(n *Node) { hears(t, n, answer(2, 1, 7, false, 0, 9)) },
	} {
		n := leads(t, api.Saved{}, 1, 2, 3)
		hears(t, n, answer(2, 1, 1, true, 1, 1))
		n.Read()
		n.Read()
		hears(t, n, answer(2, 1, 1, true, 1, 2))
		end(n)
		same(t, "Role", n.View().Role, api.Follows)
		same(t, "Reads", n.Take().Reads, []api.Ready{{Number: 1, Index: 1}})
		tick(n, 10)
		hears(t, n, vote(2, 1, 8, true), answer(2, 1, 8, true, 2, 99))
		stands(t, n, 8, 1, api.Leads, 1, 2, 2)
		same(t, "Reads", n.Take().Reads, []api.Ready{})
		number, e := n.Read()
		same(t, "Read", []any{number, e}, []any{3, api.OK})
	}
}

// Rounds end at MaxRound: reads are no more, beats go on.
func TestMaxRound(t *testing.T) {
	n := leads(t, api.Saved{}, 1, 2)
	hears(t, n, answer(2, 1, 1, true, 1, 1))
	n.round = 1<<30 - 2
	number, e := n.Read()
	same(t, "Read", []any{number, e}, []any{1, api.OK})
	number, e = n.Read()
	same(t, "Read", []any{number, e}, []any{2, api.OK})
	n.Take()
	number, e = n.Read()
	same(t, "Read", []any{number, e}, []any{0, api.ErrBusy})
	tick(n, 3)
	writes(t, n, bring(1, 2, 1, 1, 1, 1, 1<<30))
	tick(n, 3)
	writes(t, n, bring(1, 2, 1, 1, 1, 1, 1<<30))
	hears(t, n, answer(2, 1, 1, true, 1, 1<<30))
	same(t, "Reads", n.Take().Reads, []api.Ready{{Number: 1, Index: 1}, {Number: 2, Index: 1}})
	number, e = n.Read()
	same(t, "Read", []any{number, e}, []any{0, api.ErrBusy})
}
