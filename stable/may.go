package stable

import "scriptorium/api"

// maxSnapIndex leaves a number above it at which the log may begin.
const maxSnapIndex = api.MaxIndex - 1

func within(n, least, most int) bool {
	return least <= n && n <= most
}

// isGroup: as they rise between bounds, there are not too many.
func isGroup(nodes []int) bool {
	last := 0
	for _, node := range nodes {
		if !within(node, last+1, api.MaxNodes) {
			return false
		}
		last = node
	}
	return len(nodes) > 0
}

func mayBeHard(term, vote int) bool {
	return within(term, 0, api.MaxTerm) && within(vote, 0, api.MaxNodes)
}

// mayBeSnap tells of one that is written: that of the Index 0 never is.
func mayBeSnap(x api.Snap) bool {
	return within(x.Index, 1, maxSnapIndex) && within(x.Term, 0, api.MaxTerm) && isGroup(x.Nodes) && len(x.Data) <= api.MaxState
}

// mayBeEntry leaves the Index to what it is held against.
func mayBeEntry(e api.Entry) bool {
	if !within(e.Term, 1, api.MaxTerm) {
		return false
	}
	switch e.Kind {
	case api.KindNone:
		return len(e.Data) == 0 && len(e.Nodes) == 0
	case api.KindCommand:
		return len(e.Data) <= api.MaxData && len(e.Nodes) == 0
	case api.KindNodes:
		return len(e.Data) == 0 && isGroup(e.Nodes)
	}
	return false
}

// goOn tells whether these are entries, each of the Index behind that of the one ahead.
func goOn(l []api.Entry) bool {
	for i, e := range l {
		if !mayBeEntry(e) || i > 0 && !isNext(l[i-1].Index, e.Index) {
			return false
		}
	}
	return true
}

// isNext asks for the difference, as there is no number behind the greatest int.
func isNext(n, next int) bool {
	return n < next && next-n == 1
}
