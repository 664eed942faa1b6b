package wire

import (
	"scriptorium/api"
	"scriptorium/parts"
)

// isHead tells whether what a letter of each Kind has may be.
func isHead(m api.Letter) bool {
	return parts.IsNode(m.From) && parts.IsNode(m.To) && m.From != m.To && parts.Within(m.Term, 1, api.MaxTerm)
}

// inBounds need not ask for the Kind: a number that its Kind does not have is 0, which is within the bounds of all.
func inBounds(m api.Letter) bool {
	indexes := parts.Within(m.Index, 0, api.MaxIndex) && parts.Within(m.Commit, 0, api.MaxIndex)
	return indexes && parts.Within(m.LogTerm, 0, m.Term) && parts.Within(m.Round, 0, api.MaxRound)
}

// mayBe tells whether the Kind is one, and what it has beside numbers may be.
func mayBe(m api.Letter) bool {
	switch m.Kind {
	case api.LAsk, api.LVote, api.LAnswer:
		return true
	case api.LAppend:
		return len(m.Entries) <= api.MaxBatch && parts.GoOn(m.Entries, m.Index, m.LogTerm, m.Term)
	case api.LInstall:
		return parts.MayBeSnap(m.Snap) && m.Snap.Term <= m.Term
	}
	return false
}

// rest is what is left of a letter without what its Kind has.
func rest(m api.Letter) api.Letter {
	switch m.Kind {
	case api.LAsk:
		m.Index, m.LogTerm = 0, 0
	case api.LVote:
		m.Ok = false
	case api.LAppend:
		m.Index, m.LogTerm, m.Commit, m.Round, m.Entries = 0, 0, 0, 0, nil
	case api.LAnswer:
		m.Ok, m.Index, m.Round = false, 0, 0
	case api.LInstall:
		m.Snap, m.Round = api.Snap{}, 0
	}
	return m
}

// isNothing tells whether a letter has nothing but what each Kind has.
func isNothing(m api.Letter) bool {
	numbers := m.Index == 0 && m.LogTerm == 0 && m.Commit == 0 && m.Round == 0
	x := m.Snap
	snap := x.Index == 0 && x.Term == 0 && len(x.Nodes) == 0 && len(x.Data) == 0
	return numbers && !m.Ok && len(m.Entries) == 0 && snap
}
