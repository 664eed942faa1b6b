package raft

import (
	"scriptorium/api"
	"scriptorium/wire"
)

// Hear is that a letter came (S3).
func (n *Node) Hear(m api.Letter) api.Errno {
	if m.To != n.id || !wire.Right(m) {
		return api.ErrArg
	}
	if m.Term < n.term {
		n.refuse(m)
		return api.OK
	}
	if m.Term > n.term {
		n.hard = hard{term: m.Term}
		n.follow(0)
	}
	switch m.Kind {
	case api.LAsk:
		n.hearAsk(m)
	case api.LVote:
		n.hearVote(m)
	case api.LAppend:
		return n.hearAppend(m)
	case api.LAnswer:
		return n.hearAnswer(m)
	case api.LInstall:
		return n.hearInstall(m)
	}
	return api.OK
}

// refuse lets one of an older term know that there is a newer one.
func (n *Node) refuse(m api.Letter) {
	switch m.Kind {
	case api.LAsk:
		n.write(m.From, api.Letter{Kind: api.LVote})
	case api.LAppend, api.LInstall:
		n.answer(m, false, 0)
	}
}

func (n *Node) hearAsk(m api.Letter) {
	ok := (n.vote == 0 || n.vote == m.From) && n.role == api.Follows && n.isUpToDate(m)
	if ok {
		n.vote, n.clock = m.From, 0
	}
	n.write(m.From, api.Letter{Kind: api.LVote, Ok: ok})
}

// isUpToDate tells whether who asks has all that this node has, as far as the last entries show it.
func (n *Node) isUpToDate(m api.Letter) bool {
	term := n.termAt(n.last())
	return m.LogTerm > term || m.LogTerm == term && m.Index >= n.last()
}

func (n *Node) hearVote(m api.Letter) {
	if n.role == api.Stands && m.Ok {
		n.count(m.From)
	}
}

// heed is that one that leads was heard.
func (n *Node) heed(leader int) {
	n.follow(leader)
	n.clock = 0
}

func (n *Node) hearAppend(m api.Letter) api.Errno {
	if n.role == api.Leads {
		return api.ErrArg
	}
	n.heed(m.From)
	first, last := n.snap.Index, n.last()
	if m.Index+len(m.Entries) <= first {
		n.answer(m, true, first)
		return api.OK
	}
	if m.Index < first {
		m.Index, m.LogTerm, m.Entries = first, n.snap.Term, m.Entries[first-m.Index:]
	}
	if m.Index > last || n.termAt(m.Index) != m.LogTerm {
		n.answer(m, false, max(0, min(last, m.Index-1)))
		return api.OK
	}
	return n.accept(m)
}

// accept takes the entries of a letter that go on from one that is here. What is committed stays: who would have it otherwise can't lead.
func (n *Node) accept(m api.Letter) api.Errno {
	if l := n.others(m.Entries); len(l) > 0 {
		if l[0].Index <= n.commit {
			return api.ErrArg
		}
		n.take(l)
	}
	end := m.Index + len(m.Entries)
	n.commit = max(n.commit, min(m.Commit, end))
	n.answer(m, true, end)
	return api.OK
}

func (n *Node) hearAnswer(m api.Letter) api.Errno {
	if n.role != api.Leads {
		return api.OK
	}
	if m.Ok && m.Index > n.last() {
		return api.ErrArg
	}
	p := &n.peers[m.From]
	p.heard = max(p.heard, m.Round)
	if m.Ok {
		n.hearOk(m)
	} else {
		p.next = max(p.has+1, min(p.next-1, m.Index+1))
		n.bring(m.From)
	}
	n.lookAtReads()
	return api.OK
}

func (n *Node) hearOk(m api.Letter) {
	p := &n.peers[m.From]
	p.has = max(p.has, m.Index)
	p.next = p.has + 1
	n.goOn()
	if n.role == api.Leads && p.next <= n.last() {
		n.bring(m.From)
	}
}

func (n *Node) hearInstall(m api.Letter) api.Errno {
	if n.role == api.Leads {
		return api.ErrArg
	}
	n.heed(m.From)
	x := m.Snap
	if x.Index <= n.commit {
		n.answer(m, true, n.commit)
		return api.OK
	}
	var behind []api.Entry
	if n.termAt(x.Index) == x.Term {
		behind = n.behind(x.Index)
	}
	n.begin(ownSnap(x), behind)
	n.commit, n.told, n.install = x.Index, x.Index, true
	n.answer(m, true, x.Index)
	return api.OK
}
