package raft

import (
	"slices"

	"scriptorium/api"
	"scriptorium/parts"
)

// Propose and Read are what one that leads is asked (S4).
func (n *Node) Propose(kind int, data []byte, nodes []int) (int, int, api.Errno) {
	e := api.Entry{Term: n.term, Kind: kind, Data: data, Nodes: nodes}
	if err := n.mayAdd(e); err != api.OK {
		return 0, 0, err
	}
	e = n.add(e)
	n.toAll(n.bring)
	n.goOn()
	return e.Index, e.Term, api.OK
}

func (n *Node) mayAdd(e api.Entry) api.Errno {
	switch {
	case n.role != api.Leads:
		return api.ErrLeads
	case e.Kind == api.KindNone || !parts.MayBeEntry(e):
		return api.ErrArg
	case n.last() >= api.MaxIndex:
		return api.ErrMany
	case n.last() >= n.commit+api.MaxAhead:
		return api.ErrBusy
	case e.Kind == api.KindNodes:
		return n.mayChange(e.Nodes)
	}
	return api.OK
}

// mayChange lets the group change by one node at a time, and only where the change ahead is committed: of two groups in a row each majority has a node of the other one's.
func (n *Node) mayChange(nodes []int) api.Errno {
	if !n.hasCommitted() || n.changesBehind(n.commit) {
		return api.ErrBusy
	}
	if group := n.group(); !isOneMore(group, nodes) && !isOneMore(nodes, group) {
		return api.ErrArg
	}
	return api.OK
}

// isOneMore tells whether a group has all nodes of another one, and one more.
func isOneMore(group, more []int) bool {
	for _, node := range group {
		if !slices.Contains(more, node) {
			return false
		}
	}
	return len(more) == len(group)+1
}

// hasCommitted tells whether it has committed something in its own term: what was committed ahead of that it has then, too.
func (n *Node) hasCommitted() bool {
	return n.termAt(n.commit) == n.term
}

func (n *Node) Read() (int, api.Errno) {
	if n.role != api.Leads {
		return 0, api.ErrLeads
	}
	if !n.hasCommitted() || n.round >= api.MaxRound || len(n.reads) >= api.MaxAhead {
		return 0, api.ErrBusy
	}
	n.round++
	n.numbers++
	number := n.numbers
	n.reads = append(n.reads, read{api.Ready{Number: number, Index: n.commit}, n.round})
	n.toAll(n.bring)
	n.lookAtReads()
	return number, api.OK
}
