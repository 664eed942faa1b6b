package raft

import "scriptorium/api"

// Take is what is to be done (S5).
func (n *Node) Take() api.Out {
	o := api.Out{
		Install: n.install,
		Put:     ownEntries(n.behind(n.fresh - 1)),
		Letters: n.box,
		Commit:  ownEntries(n.between(n.told, n.commit)),
		Reads:   n.ready,
	}
	if n.hard != n.saved {
		o.Hard, o.Term, o.Vote = true, n.term, n.vote
	}
	if n.install {
		o.Snap = ownSnap(n.snap)
	}
	n.told = n.commit
	n.pending = pending{saved: n.hard, fresh: n.last() + 1}
	return o
}

// Compact makes a snapshot of what was told (S6).
func (n *Node) Compact(i int, data []byte) (api.Snap, api.Errno) {
	switch {
	case i <= n.snap.Index || i > n.told:
		return api.Snap{}, api.ErrIndex
	case len(data) > api.MaxState:
		return api.Snap{}, api.ErrLong
	case len(n.groupAt(i)) == 0 || i == api.MaxIndex:
		return api.Snap{}, api.ErrArg
	}
	x := ownSnap(api.Snap{Index: i, Term: n.termAt(i), Nodes: n.groupAt(i), Data: data})
	n.begin(x, n.behind(i))
	return ownSnap(x), api.OK
}
