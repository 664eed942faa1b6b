package wire

import (
	"scriptorium/api"
	"scriptorium/parts"
	"scriptorium/snap"
)

// letterBytes writes a letter that is right.
func letterBytes(m api.Letter) []byte {
	b := parts.PutNumbers(nil, m.Kind, m.From, m.To, m.Term)
	switch m.Kind {
	case api.LAsk:
		return parts.PutNumbers(b, m.Index, m.LogTerm)
	case api.LVote:
		return parts.PutNumbers(b, okNumber(m.Ok))
	case api.LAppend:
		b = parts.PutNumbers(b, m.Index, m.LogTerm, m.Commit, m.Round)
		return putEntries(b, m.Entries)
	case api.LAnswer:
		return parts.PutNumbers(b, okNumber(m.Ok), m.Index, m.Round)
	case api.LInstall:
		return parts.PutNumbers(parts.PutSnap(b, m.Snap), m.Round)
	}
	return b
}

func okNumber(ok bool) int {
	if ok {
		return 1
	}
	return 0
}

// putEntries leaves each Index out, as the letter's tells them all.
func putEntries(b []byte, l []api.Entry) []byte {
	b = parts.PutNumbers(b, len(l))
	for _, e := range l {
		b = parts.PutNumbers(b, e.Term, e.Kind)
		switch e.Kind {
		case api.KindCommand:
			b = snap.PutText(b, string(e.Data))
		case api.KindNodes:
			b = parts.PutGroup(b, e.Nodes)
		}
	}
	return b
}
