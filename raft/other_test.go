package raft

import (
	"slices"

	"scriptorium/api"
	"scriptorium/wire"
)

// raftlike is what Node and another reading of it have.
type raftlike interface {
	Tick(draw int)
	Hear(m api.Letter) api.Errno
	Propose(kind int, data []byte, nodes []int) (int, int, api.Errno)
	Read() (int, api.Errno)
	Take() api.Out
	Compact(i int, data []byte) (api.Snap, api.Errno)
	View() api.View
	Saved() api.Saved
}

// other is a node read once more: its entries are in a map by their Index, and so is what it knows of others.
type other struct {
	id             int
	term, vote     int
	snap           api.Snap
	log            map[int]api.Entry
	first          []int
	commit, told   int
	role, leader   int
	gave           map[int]bool
	clock          int
	next, has      map[int]int
	heard          map[int]int
	round, number  int
	reads          [][3]int // number, Index, round
	wasTerm        int
	wasVote        int
	installed      bool
	new            map[int]bool // which entries are others than at the last Take
	box            []api.Letter
	ready          []api.Ready
	tooFar, others int // steps that a test may count
}

func newOther(id int, s api.Saved, first []int) *other {
	o := &other{id: id, term: s.Term, vote: s.Vote, snap: s.Snap, log: map[int]api.Entry{}, first: first, wasTerm: s.Term, wasVote: s.Vote, new: map[int]bool{}}
	for _, e := range s.Entries {
		o.log[e.Index] = e
	}
	o.commit, o.told = s.Snap.Index, s.Snap.Index
	return o
}

func (o *other) last() int {
	return o.snap.Index + len(o.log)
}

func (o *other) termAt(i int) int {
	if i == o.snap.Index {
		return o.snap.Term
	}
	return o.log[i].Term // 0, where there is none
}

func (o *other) groupUpTo(end int) []int {
	group := o.first
	if len(o.snap.Nodes) > 0 {
		group = o.snap.Nodes
	}
	for i := o.snap.Index + 1; i <= end; i++ {
		if o.log[i].Kind == 2 {
			group = o.log[i].Nodes
		}
	}
	return group
}

func (o *other) group() []int {
	return o.groupUpTo(o.last())
}

func (o *other) inGroup() bool {
	return slices.Contains(o.group(), o.id)
}

// most tells whether of the group more are such than are not.
func (o *other) most(is func(node int) bool) bool {
	balance := 0
	for _, node := range o.group() {
		if is(node) {
			balance++
		} else {
			balance--
		}
	}
	return balance > 0
}

func (o *other) send(to int, m api.Letter) {
	m.From, m.To, m.Term = o.id, to, o.term
	o.box = append(o.box, m)
}

func (o *other) writeTo(to int) {
	next := o.next[to]
	if next <= o.snap.Index {
		o.send(to, api.Letter{Kind: 5, Snap: o.snap, Round: o.round})
		return
	}
	var l []api.Entry
	for i := next; i < next+4 && i <= o.last(); i++ {
		l = append(l, o.log[i])
	}
	o.send(to, api.Letter{Kind: 3, Index: next - 1, LogTerm: o.termAt(next - 1), Entries: l, Commit: o.commit, Round: o.round})
}

func (o *other) writeToAll() {
	for node := 1; node <= 5; node++ {
		if node != o.id && slices.Contains(o.group(), node) {
			o.writeTo(node)
		}
	}
}

func (o *other) add(e api.Entry) int {
	e.Index, e.Term = o.last()+1, o.term
	o.log[e.Index] = e
	o.new[e.Index] = true
	return e.Index
}

func (o *other) endLead(leader int) {
	o.role, o.leader, o.reads = 0, leader, nil
}

func (o *other) lead() {
	o.role, o.leader, o.clock, o.round, o.reads = 2, o.id, 0, 1, nil
	o.next, o.has, o.heard = map[int]int{}, map[int]int{}, map[int]int{}
	for node := 1; node <= 5; node++ {
		o.next[node] = o.last() + 1
	}
	if o.last() != 999999 {
		o.add(api.Entry{})
	}
	o.writeToAll()
	o.commitGoesOn()
}

func (o *other) commitGoesOn() {
	greatest := o.commit
	for i := o.commit + 1; i <= o.last(); i++ {
		if o.termAt(i) == o.term && o.most(func(node int) bool { return node == o.id || o.has[node] >= i }) {
			greatest = i
		}
	}
	o.commit = greatest
	if o.inGroup() {
		return
	}
	for i := o.commit + 1; i <= o.last(); i++ {
		if o.log[i].Kind == 2 {
			return
		}
	}
	o.endLead(0)
}

func (o *other) lookAtReads() {
	var wait [][3]int
	for _, r := range o.reads {
		if o.most(func(node int) bool { return node == o.id || o.heard[node] >= r[2] }) {
			o.ready = append(o.ready, api.Ready{Number: r[0], Index: r[1]})
		} else {
			wait = append(wait, r)
		}
	}
	o.reads = wait
}

func (o *other) Tick(draw int) {
	if o.role == 2 {
		o.clock++
		if o.clock >= 3 {
			o.clock = 0
			if o.round < 1<<30 {
				o.round++
			}
			o.writeToAll()
		}
		return
	}
	if !o.inGroup() {
		return
	}
	o.clock++
	if draw < 0 {
		draw = -1 - draw
	}
	if o.clock < 10+draw%10 {
		return
	}
	o.clock = 0
	if o.term == 999999 {
		return
	}
	o.term++
	o.vote, o.role, o.leader = o.id, 1, 0
	o.gave = map[int]bool{o.id: true}
	if len(o.group()) == 1 {
		o.lead()
		return
	}
	for _, node := range o.group() {
		if node != o.id {
			o.send(node, api.Letter{Kind: 1, Index: o.last(), LogTerm: o.termAt(o.last())})
		}
	}
}

func (o *other) Hear(m api.Letter) api.Errno {
	if !wire.Right(m) || m.To != o.id {
		return 1
	}
	if m.Term < o.term {
		if m.Kind == 1 {
			o.send(m.From, api.Letter{Kind: 2})
		} else if m.Kind == 3 || m.Kind == 5 {
			o.send(m.From, api.Letter{Kind: 4, Round: m.Round})
		}
		return 0
	}
	if m.Term > o.term {
		o.term, o.vote = m.Term, 0
		o.endLead(0)
	}
	switch {
	case m.Kind == 1:
		newer := m.LogTerm > o.termAt(o.last()) || m.LogTerm == o.termAt(o.last()) && m.Index >= o.last()
		ok := o.role == 0 && newer && (o.vote == 0 || o.vote == m.From)
		if ok {
			o.vote, o.clock = m.From, 0
		}
		o.send(m.From, api.Letter{Kind: 2, Ok: ok})
	case m.Kind == 2 && o.role == 1 && m.Ok:
		o.gave[m.From] = true
		if o.most(func(node int) bool { return o.gave[node] }) {
			o.lead()
		}
	case m.Kind == 4 && o.role == 2:
		return o.hearAnswer(m)
	case (m.Kind == 3 || m.Kind == 5) && o.role == 2:
		return 1
	case m.Kind == 3:
		o.endLead(m.From)
		o.clock = 0
		return o.hearAppend(m)
	case m.Kind == 5:
		o.endLead(m.From)
		o.clock = 0
		o.hearInstall(m)
	}
	return 0
}

func (o *other) hearAppend(m api.Letter) api.Errno {
	a := api.Letter{Kind: 4, Round: m.Round}
	end := m.Index + len(m.Entries)
	if end <= o.snap.Index {
		a.Ok, a.Index = true, o.snap.Index
		o.send(m.From, a)
		return 0
	}
	if m.Index >= o.snap.Index && (m.Index > o.last() || o.termAt(m.Index) != m.LogTerm) {
		o.others++
		a.Index = min(o.last(), m.Index-1)
		if a.Index < 0 {
			a.Index = 0
		}
		o.send(m.From, a)
		return 0
	}
	for _, e := range m.Entries {
		if e.Index > o.snap.Index && e.Index <= o.commit && o.log[e.Index].Term != e.Term {
			o.tooFar++
			return 1
		}
	}
	for _, e := range m.Entries {
		if e.Index <= o.snap.Index || o.log[e.Index].Term == e.Term {
			continue
		}
		for i := o.last(); i >= e.Index; i-- {
			delete(o.log, i)
		}
		o.log[e.Index] = e
		o.new[e.Index] = true
	}
	o.commit = max(o.commit, min(m.Commit, end))
	a.Ok, a.Index = true, end
	o.send(m.From, a)
	return 0
}

func (o *other) hearAnswer(m api.Letter) api.Errno {
	if m.Ok && m.Index > o.last() {
		return 1
	}
	o.heard[m.From] = max(o.heard[m.From], m.Round)
	if !m.Ok {
		lesser := min(o.next[m.From]-1, m.Index+1)
		o.next[m.From] = max(o.has[m.From]+1, lesser)
		o.writeTo(m.From)
		o.lookAtReads()
		return 0
	}
	o.has[m.From] = max(o.has[m.From], m.Index)
	o.next[m.From] = o.has[m.From] + 1
	o.commitGoesOn()
	if o.role == 2 && o.next[m.From] <= o.last() {
		o.writeTo(m.From)
	}
	o.lookAtReads()
	return 0
}

func (o *other) hearInstall(m api.Letter) {
	a := api.Letter{Kind: 4, Round: m.Round, Ok: true, Index: o.commit}
	if m.Snap.Index > o.commit {
		same := o.termAt(m.Snap.Index) == m.Snap.Term
		for i := o.last(); i > o.snap.Index; i-- {
			if !same || i <= m.Snap.Index {
				delete(o.log, i)
				delete(o.new, i)
			}
		}
		o.snap, o.commit, o.told, o.installed = m.Snap, m.Snap.Index, m.Snap.Index, true
		a.Index = m.Snap.Index
	}
	o.send(m.From, a)
}

// oneApart tells whether of two groups one has one node that the other has not, and nothing else is in one of them alone.
func oneApart(a, b []int) bool {
	apart := 0
	for node := 1; node <= 5; node++ {
		if slices.Contains(a, node) != slices.Contains(b, node) {
			apart++
		}
	}
	return apart == 1
}

func (o *other) Propose(kind int, data []byte, nodes []int) (int, int, api.Errno) {
	if o.role != 2 {
		return 0, 0, 18
	}
	e := api.Entry{Index: 1, Term: 1, Kind: kind, Data: data, Nodes: nodes}
	if kind == 0 || !wire.Right(api.Letter{Kind: 3, From: 1, To: 2, Term: 1, Entries: []api.Entry{e}}) {
		return 0, 0, 1
	}
	if o.last() == 999999 {
		return 0, 0, 11
	}
	if o.last()-o.commit >= 32 {
		return 0, 0, 19
	}
	if kind == 2 {
		busy := o.termAt(o.commit) != o.term
		for i := o.commit + 1; i <= o.last(); i++ {
			busy = busy || o.log[i].Kind == 2
		}
		if busy {
			return 0, 0, 19
		}
		if !oneApart(nodes, o.group()) {
			return 0, 0, 1
		}
	}
	at := o.add(e)
	term := o.term
	o.writeToAll()
	o.commitGoesOn()
	return at, term, 0
}

func (o *other) Read() (int, api.Errno) {
	if o.role != 2 {
		return 0, 18
	}
	if o.termAt(o.commit) != o.term || o.round == 1<<30 || len(o.reads) == 32 {
		return 0, 19
	}
	o.round++
	o.number++
	o.reads = append(o.reads, [3]int{o.number, o.commit, o.round})
	o.writeToAll()
	o.lookAtReads()
	return o.number, 0
}

func (o *other) Take() api.Out {
	out := api.Out{Install: o.installed, Letters: o.box, Reads: o.ready}
	if o.term != o.wasTerm || o.vote != o.wasVote {
		out.Hard, out.Term, out.Vote = true, o.term, o.vote
	}
	if o.installed {
		out.Snap = o.snap
	}
	put := false
	for i := o.snap.Index + 1; i <= o.last(); i++ {
		put = put || o.new[i]
		if put {
			out.Put = append(out.Put, o.log[i])
		}
		if i > o.told && i <= o.commit {
			out.Commit = append(out.Commit, o.log[i])
		}
	}
	if len(out.Letters) > 64 {
		out.Letters = out.Letters[len(out.Letters)-64:]
	}
	o.told, o.wasTerm, o.wasVote, o.installed, o.new, o.box, o.ready = o.commit, o.term, o.vote, false, map[int]bool{}, nil, nil
	return out
}

func (o *other) Compact(i int, data []byte) (api.Snap, api.Errno) {
	if i <= o.snap.Index || i > o.told {
		return api.Snap{}, 17
	}
	if len(data) > 300000 {
		return api.Snap{}, 2
	}
	group := o.groupUpTo(i)
	if len(group) == 0 || i == 999999 {
		return api.Snap{}, 1
	}
	x := api.Snap{Index: i, Term: o.termAt(i), Nodes: group, Data: data}
	for k := range o.log {
		if k <= i {
			delete(o.log, k)
		}
	}
	o.snap = x
	return x, 0
}

func (o *other) View() api.View {
	return api.View{Term: o.term, Vote: o.vote, Role: o.role, Leader: o.leader, First: o.snap.Index, Commit: o.commit, Last: o.last(), Group: o.group()}
}

func (o *other) Saved() api.Saved {
	s := api.Saved{Term: o.term, Vote: o.vote, Snap: o.snap}
	for i := o.snap.Index + 1; i <= o.last(); i++ {
		s.Entries = append(s.Entries, o.log[i])
	}
	return s
}
