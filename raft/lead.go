package raft

import (
	"slices"

	"scriptorium/api"
)

// isMajority tells whether of the group more than half are such.
func (n *Node) isMajority(is func(node int) bool) bool {
	group, count := n.group(), 0
	for _, node := range group {
		if is(node) {
			count++
		}
	}
	return count > len(group)/2
}

// follow ends what else it was. Who follows can't answer the reads that wait: another may lead already.
func (n *Node) follow(leader int) {
	n.role, n.leader, n.reads = api.Follows, leader, nil
}

// stand asks for votes in a new term.
func (n *Node) stand() {
	n.follow(0)
	n.role, n.hard = api.Stands, hard{term: n.term + 1, vote: n.id}
	clear(n.votes[:])
	n.count(n.id)
	if n.role == api.Stands {
		n.toAll(n.ask)
	}
}

// count takes a vote, by which it may lead.
func (n *Node) count(from int) {
	n.votes[from] = true
	if n.isMajority(n.votedFor) {
		n.lead()
	}
}

// votedFor tells whether a node gave this one its vote.
func (n *Node) votedFor(node int) bool {
	return n.votes[node]
}

func (n *Node) lead() {
	n.role, n.leader, n.clock = api.Leads, n.id, 0
	for node := range n.peers {
		n.peers[node] = peer{next: n.last() + 1}
	}
	n.reads, n.round = nil, 1
	if n.last() < api.MaxIndex {
		n.add(api.Entry{Kind: api.KindNone})
	}
	n.toAll(n.bring)
	n.goOn()
}

// add makes an entry one more, with the Index and the term that it has by that.
func (n *Node) add(e api.Entry) api.Entry {
	e.Index, e.Term = n.last()+1, n.term
	n.take([]api.Entry{e})
	return e
}

// take makes the row go on with entries, one at least, from the Index of the first one on.
func (n *Node) take(l []api.Entry) {
	n.put(l)
	n.fresh = min(n.fresh, l[0].Index)
}

// goOn lets commit go on. Where a leader's own leaving the group is committed, it leads no more.
func (n *Node) goOn() {
	for i := n.last(); i > n.commit; i-- {
		if n.termAt(i) == n.term && n.isMajority(n.havers(i)) {
			n.commit = i
		}
	}
	if !slices.Contains(n.group(), n.id) && !n.changesBehind(n.commit) {
		n.follow(0)
	}
}

// havers tells of which nodes it is known that they have what the leader has up to an Index.
func (n *Node) havers(index int) func(node int) bool {
	return func(node int) bool { return node == n.id || n.peers[node].has >= index }
}

// hearers tells which nodes have heard a round.
func (n *Node) hearers(round int) func(node int) bool {
	return func(node int) bool { return node == n.id || n.peers[node].heard >= round }
}

// lookAtReads moves those that are ready out of those that wait.
func (n *Node) lookAtReads() {
	wait := slices.DeleteFunc(n.reads, func(r read) bool {
		is := n.isMajority(n.hearers(r.round))
		if is {
			n.ready = append(n.ready, r.Ready)
		}
		return is
	})
	n.reads = wait
}
