package wire

import (
	"math"

	"scriptorium/api"
)

// draws tells the same row of numbers below n for the same start.
func draws(start int) func(n int) int {
	x := uint64(start)*2654435761 + 12345
	return func(n int) int {
		x = x*6364136223846793005 + 1442695040888963407
		return int((x >> 33) % uint64(n))
	}
}

// pick is one of these.
func pick[T any](draw func(n int) int, l ...T) T {
	return l[draw(len(l))]
}

// drawnLetter is mostly right; a third have something that may be wrong.
func drawnLetter(draw func(n int) int) api.Letter {
	m := api.Letter{Kind: 1 + draw(5), From: 1 + draw(5), To: 1 + draw(5), Term: 1 + draw(4)}
	m.Term = pick(draw, m.Term, m.Term, m.Term, m.Term, 127, 128, 999999)
	index, logTerm, round := pick(draw, 0, 1, 2, 126, 127, 999998, 999999), draw(m.Term+1), pick(draw, 0, 1, 300, 1<<30)
	switch m.Kind {
	case 1:
		m.Index, m.LogTerm = index, logTerm
	case 2:
		m.Ok = draw(2) == 0
	case 3:
		m.Index, m.LogTerm, m.Round, m.Commit = index, logTerm, round, pick(draw, 0, 1, 128, 999999)
		m.Entries = drawnEntries(draw, m)
	case 4:
		m.Ok, m.Index, m.Round = draw(2) == 0, index, round
	case 5:
		m.Snap, m.Round = snapshot(1+index, logTerm, many(draw(4)), drawnNodes(draw)...), round
		m.Snap.Index -= m.Snap.Index / 999999 * 3
	}
	for range pick(draw, 0, 0, 0, 0, 1, 2) {
		spoil(draw, &m)
	}
	return m
}

func drawnEntries(draw func(n int) int, m api.Letter) []api.Entry {
	var l []api.Entry
	term := max(1, m.LogTerm)
	for i := range draw(5) {
		term = min(m.Term, term+draw(2))
		switch e := none(m.Index+1+i, term); draw(3) {
		case 0:
			l = append(l, e)
		case 1:
			l = append(l, command(e.Index, e.Term, many(draw(4))))
		case 2:
			l = append(l, grouping(e.Index, e.Term, drawnNodes(draw)...))
		}
	}
	return l
}

// drawnNodes are a group.
func drawnNodes(draw func(n int) int) []int {
	var nodes []int
	for n := range 5 {
		if draw(2) == 0 {
			nodes = append(nodes, n+1)
		}
	}
	if len(nodes) == 0 {
		return []int{1 + draw(5)}
	}
	return nodes
}

// spoil makes something another, which may be wrong then.
func spoil(draw func(n int) int, m *api.Letter) {
	odd := pick(draw, math.MinInt, -1, 0, 1, 2, 3, 5, 6, 999998, 999999, 1000000, 1<<30, 1<<30+1, math.MaxInt)
	*pick(draw, numbersOf(m)...) = odd
	switch i := draw(len(m.Entries) + 1); draw(9) {
	case 0:
		m.Ok = !m.Ok
	case 1:
		m.Snap.Data = []byte(many(draw(2)))
	case 2:
		m.Snap.Nodes = drawnNodes(draw)
	case 3:
		m.Entries = append(m.Entries, none(m.Index+1+len(m.Entries), m.Term))
	case 4:
		if i > 0 {
			m.Entries[i-1].Data = []byte(many(draw(2)))
		}
	case 5:
		if i > 0 {
			m.Entries[i-1].Nodes = drawnNodes(draw)
		}
	}
}

// numbersOf are all numbers of a letter, also those that its Kind does not have.
func numbersOf(m *api.Letter) []*int {
	l := []*int{&m.Kind, &m.From, &m.To, &m.Term, &m.Index, &m.LogTerm, &m.Commit, &m.Round, &m.Snap.Index, &m.Snap.Term}
	for i := range m.Snap.Nodes {
		l = append(l, &m.Snap.Nodes[i])
	}
	for i := range m.Entries {
		e := &m.Entries[i]
		l = append(l, &e.Index, &e.Term, &e.Kind)
		for j := range e.Nodes {
			l = append(l, &e.Nodes[j])
		}
	}
	return l
}
