package raft

import (
	"slices"

	"scriptorium/api"
)

// Tick is that some time passed (S2).
func (n *Node) Tick(draw int) {
	switch {
	case n.role == api.Leads:
		n.beat()
	case slices.Contains(n.group(), n.id):
		n.wait(draw)
	}
}

// beat tells all, now and then, that it leads.
func (n *Node) beat() {
	n.clock++
	if n.clock < api.Beat {
		return
	}
	n.clock = 0
	n.round = min(n.round+1, api.MaxRound)
	n.toAll(n.bring)
}

// wait stands where nobody has led for too long. How long that is is drawn, so that not all stand at once.
func (n *Node) wait(draw int) {
	n.clock++
	if n.clock < api.Patience+drawn(draw) {
		return
	}
	n.clock = 0
	if n.term < api.MaxTerm {
		n.stand()
	}
}

// drawn is a number from 0 to 9.
func drawn(draw int) int {
	if draw < 0 {
		draw = -(draw + 1)
	}
	return draw % 10
}
