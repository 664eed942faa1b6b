package raft

import (
	"slices"

	"scriptorium/api"
)

// write puts a letter into the box. What a letter holds belongs to whoever takes it: it is handed in new.
func (n *Node) write(to int, m api.Letter) {
	m.From, m.To, m.Term = n.id, to, n.term
	if len(n.box) >= api.MaxBox {
		n.box = slices.Delete(n.box, 0, 1)
	}
	n.box = append(n.box, m)
}

// toAll hands each other node of the group to what writes to one.
func (n *Node) toAll(writeTo func(to int)) {
	for _, node := range n.group() {
		if node != n.id {
			writeTo(node)
		}
	}
}

// ask asks for a vote.
func (n *Node) ask(to int) {
	n.write(to, api.Letter{Kind: api.LAsk, Index: n.last(), LogTerm: n.termAt(n.last())})
}

// bring brings a node what it is sent next: entries, or the snapshot in the place of those that are gone.
func (n *Node) bring(to int) {
	next := n.peers[to].next
	if next <= n.snap.Index {
		n.write(to, api.Letter{Kind: api.LInstall, Snap: ownSnap(n.snap), Round: n.round})
		return
	}
	l := n.behind(next - 1)
	n.write(to, api.Letter{
		Kind: api.LAppend, Index: next - 1, LogTerm: n.termAt(next - 1),
		Entries: ownEntries(l[:min(len(l), api.MaxBatch)]),
		Commit:  n.commit, Round: n.round,
	})
}

// answer answers one that leads.
func (n *Node) answer(m api.Letter, ok bool, index int) {
	n.write(m.From, api.Letter{Kind: api.LAnswer, Ok: ok, Index: index, Round: m.Round})
}
