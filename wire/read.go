package wire

import (
	"scriptorium/api"
	"scriptorium/reader"
)

// readLetter gives up where b is no letter's Encode.
func readLetter(b []byte) api.Letter {
	r := reader.New(b)
	var m api.Letter
	m.Kind = r.Number(api.LInstall)
	m.From = r.Number(api.MaxNodes)
	m.To = r.Number(api.MaxNodes)
	m.Term = r.Number(api.MaxTerm)
	readKind(r, &m)
	r.End()
	if !Right(m) {
		reader.GiveUp(0)
	}
	return m
}

// readKind reads what the letter's Kind has.
func readKind(r *reader.Reader, m *api.Letter) {
	switch m.Kind {
	case api.LAsk:
		m.Index = r.Number(api.MaxIndex)
		m.LogTerm = r.Number(api.MaxTerm)
	case api.LVote:
		m.Ok = readOk(r)
	case api.LAppend:
		m.Index = r.Number(api.MaxIndex)
		m.LogTerm = r.Number(api.MaxTerm)
		m.Commit = r.Number(api.MaxIndex)
		m.Round = r.Number(api.MaxRound)
		m.Entries = readEntries(r, m.Index)
	case api.LAnswer:
		m.Ok = readOk(r)
		m.Index = r.Number(api.MaxIndex)
		m.Round = r.Number(api.MaxRound)
	case api.LInstall:
		m.Snap = readSnap(r)
		m.Round = r.Number(api.MaxRound)
	default:
		// Nobody knows what stands behind a Kind that is none.
		reader.GiveUp(0)
	}
}

func readOk(r *reader.Reader) bool {
	return r.Number(1) == 1
}

// readEntries counts their Index on from that of the entry ahead of them.
func readEntries(r *reader.Reader, index int) []api.Entry {
	var l []api.Entry
	for range r.Number(api.MaxBatch) {
		index++
		l = append(l, readEntry(r, index))
	}
	return l
}

func readEntry(r *reader.Reader, index int) api.Entry {
	e := api.Entry{Index: index}
	e.Term = r.Number(api.MaxTerm)
	e.Kind = r.Number(api.KindNodes)
	switch e.Kind {
	case api.KindCommand:
		e.Data = []byte(r.Text(api.MaxData))
	case api.KindNodes:
		e.Nodes = readNodes(r)
	}
	return e
}

// readSnap reads also an Index that no snapshot has: it may be as great as any Index, and is then not right.
func readSnap(r *reader.Reader) api.Snap {
	var x api.Snap
	x.Index = r.Number(api.MaxIndex)
	x.Term = r.Number(api.MaxTerm)
	x.Nodes = readNodes(r)
	x.Data = []byte(r.Text(api.MaxState))
	return x
}

// readNodes reads also nodes that are no group.
func readNodes(r *reader.Reader) []int {
	var nodes []int
	for range r.Number(api.MaxNodes) {
		nodes = append(nodes, r.Number(api.MaxNodes))
	}
	return nodes
}
