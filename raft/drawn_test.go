package raft

import (
	"fmt"
	"math"
	"math/rand/v2"
	"slices"
	"testing"

	"scriptorium/api"
)

// draws tells the same row of numbers below n for the same start.
func draws(start int) func(n int) int {
	return rand.New(rand.NewPCG(uint64(start), 19)).IntN
}

// pick is one of these.
func pick[T any](draw func(n int) int, l ...T) T {
	return l[draw(len(l))]
}

// call is one of a node's calls, and what it is handed.
type call struct {
	what    string
	i, kind int
	m       api.Letter
	data    []byte
	nodes   []int
}

// asked is what a call answers, as texts.
func asked(n raftlike, c call) []any {
	switch c.what {
	case "tick":
		for range c.kind {
			n.Tick(c.i)
		}
	case "hear":
		return []any{n.Hear(c.m)}
	case "propose":
		index, term, e := n.Propose(c.kind, c.data, c.nodes)
		return []any{index, term, e}
	case "read":
		number, e := n.Read()
		return []any{number, e}
	case "take":
		return []any{n.Take()}
	case "compact":
		x, e := n.Compact(c.i, c.data)
		return []any{x, e}
	case "view":
		return []any{n.View()}
	case "saved":
		return []any{n.Saved()}
	}
	return nil
}

// near is a number near one of these, and none below 0.
func near(draw func(n int) int, l ...int) int {
	return max(0, pick(draw, l...)+pick(draw, 0, 0, 0, 1, -1, 1, -2, 2))
}

// drawnCall is one that may matter to a node that stands as o does.
func drawnCall(draw func(n int) int, o *other) call {
	switch n := draw(20); {
	case n < 2:
		return call{what: "tick", kind: pick(draw, 1, 1, 3, 9, 10), i: pick(draw, 0, 0, 0, 1, 5, 9, 10, 123, -1, -7, math.MinInt, math.MaxInt)}
	case n < 4 && o.role == 2:
		return call{what: "propose", kind: 1, data: make([]byte, draw(3))}
	case n == 4 && o.role == 2:
		return call{what: "propose", kind: 2, nodes: drawnChange(draw, o)}
	case n == 5:
		return call{what: "propose", kind: draw(4), data: make([]byte, pick(draw, 0, 1, 8000, 8001)), nodes: drawnGroup(draw)}
	case n == 6:
		return call{what: "read"}
	case n == 7 || n == 8:
		return call{what: "take"}
	case n == 9:
		return call{what: "compact", i: pick(draw, o.told, o.told-1, o.told+1, o.snap.Index+1, o.snap.Index, draw(30)), data: make([]byte, draw(3))}
	}
	return call{what: "hear", m: drawnLetter(draw, o)}
}

func drawnGroup(draw func(n int) int) []int {
	return pick(draw, nil, []int{1}, []int{1, 2}, []int{1, 2, 3}, []int{2, 3}, []int{1, 3, 4}, []int{1, 2, 3, 4}, []int{1, 2, 3, 4, 5})
}

// drawnChange is its group with a node more or less.
func drawnChange(draw func(n int) int, o *other) []int {
	nodes, node := slices.Clone(o.group()), 1+draw(5)
	if i := slices.Index(nodes, node); i >= 0 {
		return slices.Delete(nodes, i, i+1)
	}
	nodes = append(nodes, node)
	slices.Sort(nodes)
	return nodes
}

func drawnLetter(draw func(n int) int, o *other) api.Letter {
	m := api.Letter{Kind: pick(draw, 1, 2, 3, 3, 3, 3, 4, 5), From: 1 + (o.id+draw(4))%5, To: o.id, Term: max(1, o.term)}
	odd := 24
	if o.role != 0 && draw(9) > 0 { // what lets it lead, and go on with that
		m.Kind, odd = 2*o.role, 200
	}
	switch draw(odd) {
	case 0:
		m.Term += 1 + draw(2)
	case 1:
		m.Term = max(1, m.Term-1)
	case 2:
		m.To, m.From = 1+draw(5), draw(7)
	}
	if o.role == 0 && m.Kind <= 3 && draw(3) == 0 {
		m.Term += draw(2)
	}
	last := o.last()
	switch m.Kind {
	case 1:
		m.Index, m.LogTerm = near(draw, last), min(near(draw, o.termAt(last)), m.Term)
	case 2:
		m.Ok = draw(3) > 0
	case 3:
		m.Index, m.Commit, m.Round = near(draw, o.snap.Index, o.snap.Index, o.commit, last, last), near(draw, o.commit, last), draw(9)
		m.LogTerm = min(m.Term, o.termAt(m.Index))
		if draw(6) == 0 {
			m.LogTerm = draw(m.Term + 1)
		}
		m.Entries = drawnEntries(draw, o, m)
	case 4:
		m.Ok, m.Index, m.Round = draw(4) > 0, near(draw, o.commit, last, last), near(draw, o.round)
		if draw(5) > 0 {
			m.Index = min(m.Index, last)
		}
	case 5:
		m.Round, m.Snap = draw(9), api.Snap{Index: near(draw, o.snap.Index, o.commit, o.commit+2, last), Nodes: pick(draw, []int{1}, []int{1, 2, 3}, []int{1, 2, 3, 4, 5}, []int{2}), Data: make([]byte, draw(3))}
		m.Snap.Term = pick(draw, min(m.Term, o.termAt(m.Snap.Index)), draw(m.Term+1))
	}
	return m
}

// drawnEntries are those that the node has, as far as they go, or some from one on that are others.
func drawnEntries(draw func(n int) int, o *other, m api.Letter) []api.Entry {
	var l []api.Entry
	term, count, turn := max(1, m.LogTerm), draw(5), draw(9)
	for i := m.Index + 1; i <= m.Index+count; i++ {
		if e := o.log[i]; e.Term > 0 && i-m.Index <= turn && e.Term <= m.Term {
			l = append(l, e)
			term = e.Term
			continue
		}
		term = min(m.Term, term+pick(draw, 0, 0, 1))
		switch draw(6) {
		case 0:
			l = append(l, change(i, term, pick(draw, []int{1}, []int{1, 2}, []int{1, 2, 3}, []int{1, 2, 3, 4}, []int{2, 3})...))
		case 1, 2:
			l = append(l, none(i, term))
		default:
			l = append(l, command(i, term, string(make([]byte, draw(3)))))
		}
	}
	return l
}

// drawnSaved is a beginning.
func drawnSaved(draw func(n int) int) api.Saved {
	return pick(draw,
		api.Saved{}, api.Saved{}, api.Saved{Term: 3, Vote: 2}, api.Saved{Term: 2, Entries: terms(0, 1, 1, 2)},
		api.Saved{Term: 4, Vote: 1, Snap: snapshot(5, 2, "x", 1, 2, 3), Entries: []api.Entry{none(6, 2), change(7, 3, 1, 2), command(8, 4, "a")}},
		api.Saved{Term: 2, Snap: snapshot(999990, 1, "x", 1, 2), Entries: terms(999990, 1, 2, 2)},
		api.Saved{Term: 999996, Snap: snapshot(1, 0, "", 1)}, api.Saved{Term: 1, Snap: snapshot(9, 1, "", 1, 2)},
	)
}

// pair is a node, and the same node by another reading.
type pair struct {
	node  *Node
	other *other
}

func newPair(t *testing.T, id int, s api.Saved, first []int) pair {
	t.Helper()
	return pair{made(t, id, s, first...), newOther(id, s, first)}
}

// agree: both do a call, answer the same, and stand alike behind it.
func (p pair) agree(c call) error {
	got, want := told(asked(p.node, c)), told(asked(p.other, c))
	if got != want {
		return fmt.Errorf("%.300s: %.900s, not %.900s", told(c), got, want)
	}
	if got, want := told(p.node.View()), told(p.other.View()); got != want {
		return fmt.Errorf("%.300s: it stands as %s, not %s", told(c), got, want)
	}
	return nil
}

// Long rows of drawn calls are held against another reading.
func TestLongRows(t *testing.T) {
	did := map[string]int{}
	for start := range 900 {
		draw := draws(start)
		s, first := drawnSaved(draw), drawnGroup(draw)
		p := newPair(t, 1+draw(2), s, first)
		for range 300 {
			c := drawnCall(draw, p.other)
			was := p.other.View()
			if err := p.agree(c); err != nil {
				t.Fatalf("row %d: %v", start, err)
			}
			note(did, c, was, p.other)
		}
		did["refused"] += p.other.tooFar
		did["not there"] += p.other.others
		for _, c := range []call{{what: "saved"}, {what: "take"}, {what: "saved"}, {what: "take"}} {
			if err := p.agree(c); err != nil {
				t.Fatalf("row %d: %v", start, err)
			}
		}
	}
	for _, what := range []string{"led", "left", "stood", "compacted", "installed", "committed", "read", "changed", "refused", "not there"} {
		if did[what] < 100 {
			t.Errorf("only %d: %s", did[what], what)
		}
	}
}

// note counts what became of a call, so that it can be told whether the rows go far enough.
func note(did map[string]int, c call, was api.View, o *other) {
	count := func(what string, is bool) {
		if is {
			did[what]++
		}
	}
	v := o.View()
	count("led", v.Role == api.Leads && was.Role != api.Leads)
	count("left", v.Role == api.Follows && was.Role == api.Leads && v.Term == was.Term)
	count("stood", v.Role == api.Stands && v.Term > was.Term)
	count("compacted", c.what == "compact" && v.First > was.First)
	count("installed", c.what == "hear" && v.First > was.First)
	count("committed", v.Commit > was.Commit && v.Role == api.Leads)
	count("read", len(o.ready) > 0 && c.what == "hear")
	count("changed", c.what == "propose" && c.kind == api.KindNodes && v.Last > was.Last)
}

// All rows of a few calls, from some beginnings, are held against another reading.
func TestShortRows(t *testing.T) {
	one, x := []api.Entry{none(1, 1)}, snapshot(2, 1, "x", 1, 2)
	stand := api.Saved{Term: 1, Vote: 2, Entries: []api.Entry{none(1, 1)}}
	letters := func(term, index, logTerm int, next ...api.Entry) []call {
		return []call{
			{what: "hear", m: ask(2, 1, term, index, logTerm)},
			{what: "hear", m: vote(2, 1, term, true)},
			{what: "hear", m: bring(2, 1, term, index, logTerm, index+1, 1, next...)},
			{what: "hear", m: bring(3, 1, term+1, index, logTerm, 0, 1, none(index+1, term+1), none(index+2, term+1))},
			{what: "hear", m: answer(2, 1, term, true, index+1, 2)},
			{what: "hear", m: answer(3, 1, term, false, index, 1)},
			{what: "hear", m: install(3, 1, term, 1, x)},
		}
	}
	calls := []call{{what: "tick", kind: 1, i: -11}, {what: "propose", kind: 1, data: []byte("a")}, {what: "propose", kind: 2, nodes: []int{2}}, {what: "read"}, {what: "take"}, {what: "compact", i: 2, data: []byte("y")}}
	for _, c := range []struct {
		s     api.Saved
		first []int
		calls []call
	}{
		{api.Saved{}, []int{1}, append(letters(1, 1, 1, none(2, 1)), calls...)},
		{api.Saved{}, []int{1, 2}, append(letters(1, 0, 0, one...), calls...)},
		{stand, []int{1, 2, 3}, append(letters(2, 1, 1, change(2, 2, 1, 2)), calls...)},
	} {
		row := make([]int, 0, 4)
		var grow func()
		grow = func() {
			p := newPair(t, 1, c.s, c.first)
			for range 9 {
				p.node.Tick(0)
				p.other.Tick(0)
			}
			for _, i := range row {
				if err := p.agree(c.calls[i]); err != nil {
					t.Fatalf("%d: %v", row, err)
				}
			}
			if err := p.agree(call{what: "saved"}); err != nil {
				t.Fatalf("%d: %v", row, err)
			}
			if err := p.agree(call{what: "take"}); err != nil {
				t.Fatalf("%d: %v", row, err)
			}
			if len(row) == cap(row) {
				return
			}
			for i := range c.calls {
				row = append(row, i)
				grow()
				row = row[:len(row)-1]
			}
		}
		grow()
	}
}
