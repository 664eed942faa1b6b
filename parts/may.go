// Package parts is what nodes save and what they send alike: groups, entries and snapshots (shared/doc/16-stable.md), which of them may be, and how they are written.
package parts

import "scriptorium/api"

// MaxSnapIndex leaves a number above it at which the log may begin.
const MaxSnapIndex = api.MaxIndex - 1

// Within tells whether n is neither below the least nor above the most.
func Within(n, least, most int) bool {
	return least <= n && n <= most
}

// IsNode tells whether a node has this number.
func IsNode(n int) bool {
	return Within(n, 1, api.MaxNodes)
}

// IsGroup tells whether these are a group: as they rise between bounds, there are not too many.
func IsGroup(nodes []int) bool {
	last := 0
	for _, node := range nodes {
		if !IsNode(node) || node <= last {
			return false
		}
		last = node
	}
	return len(nodes) > 0
}

// MayBeHard tells of a term, and of whom was voted for in it.
func MayBeHard(term, vote int) bool {
	return Within(term, 0, api.MaxTerm) && Within(vote, 0, api.MaxNodes)
}

// MayBeSnap tells of one that is written: that of the Index 0 never is.
func MayBeSnap(x api.Snap) bool {
	return Within(x.Index, 1, MaxSnapIndex) && Within(x.Term, 0, api.MaxTerm) && IsGroup(x.Nodes) && len(x.Data) <= api.MaxState
}

// MayBeEntry leaves the Index to what it is held against.
func MayBeEntry(e api.Entry) bool {
	if !Within(e.Term, 1, api.MaxTerm) {
		return false
	}
	switch e.Kind {
	case api.KindNone:
		return len(e.Data) == 0 && len(e.Nodes) == 0
	case api.KindCommand:
		return len(e.Data) <= api.MaxData && len(e.Nodes) == 0
	case api.KindNodes:
		return len(e.Data) == 0 && IsGroup(e.Nodes)
	}
	return false
}

// GoOn tells whether these are entries that go on from an Index, with terms that do not fall from one on, and none above most. None has an Index that no record has: nobody could save it.
func GoOn(l []api.Entry, index, term, most int) bool {
	for _, e := range l {
		index++
		if !MayBeEntry(e) || e.Index != index || !Within(index, 1, api.MaxIndex) || !Within(e.Term, term, most) {
			return false
		}
		term = e.Term
	}
	return true
}
