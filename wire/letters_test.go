package wire

import (
	"fmt"
	"slices"
	"strings"
	"testing"

	"scriptorium/api"
)

func ask(term, index, logTerm int) api.Letter {
	return api.Letter{Kind: 1, From: 1, To: 2, Term: term, Index: index, LogTerm: logTerm}
}

func vote(term int, ok bool) api.Letter {
	return api.Letter{Kind: 2, From: 2, To: 1, Term: term, Ok: ok}
}

func appending(term, index, logTerm, commit, round int, l ...api.Entry) api.Letter {
	return api.Letter{Kind: 3, From: 3, To: 5, Term: term, Index: index, LogTerm: logTerm, Commit: commit, Round: round, Entries: l}
}

func answer(term int, ok bool, index, round int) api.Letter {
	return api.Letter{Kind: 4, From: 5, To: 3, Term: term, Ok: ok, Index: index, Round: round}
}

func install(term, round int, x api.Snap) api.Letter {
	return api.Letter{Kind: 5, From: 4, To: 1, Term: term, Snap: x, Round: round}
}

func none(index, term int) api.Entry {
	return api.Entry{Index: index, Term: term}
}

func command(index, term int, data string) api.Entry {
	return api.Entry{Index: index, Term: term, Kind: 1, Data: []byte(data)}
}

func grouping(index, term int, nodes ...int) api.Entry {
	return api.Entry{Index: index, Term: term, Kind: 2, Nodes: nodes}
}

func snapshot(index, term int, data string, nodes ...int) api.Snap {
	return api.Snap{Index: index, Term: term, Nodes: nodes, Data: []byte(data)}
}

// many is a text of n bytes.
func many(n int) string { return strings.Repeat("m", n) }

// with is a letter of which something is another; its entries are its own.
func with(m api.Letter, change func(m *api.Letter)) api.Letter {
	m.Entries = slices.Clone(m.Entries)
	change(&m)
	return m
}

// some is a letter with entries of each kind.
func some() api.Letter {
	return appending(9, 130, 2, 128, 300, command(131, 2, "one"), none(132, 5), grouping(133, 5, 1, 2, 4), command(134, 9, ""))
}

// installing is a letter with a snapshot.
func installing() api.Letter {
	return install(9, 200, snapshot(300, 7, "\xff\x00 state", 2, 3, 5))
}

// rightLetters are letters that are right: of each Kind, with each field at 0 and at its bounds.
func rightLetters() []api.Letter {
	l := []api.Letter{
		ask(1, 0, 0), ask(1, 0, 1), ask(999999, 999999, 999999), ask(999999, 0, 999999), ask(7, 999999, 0), ask(128, 127, 128),
		vote(1, true), vote(1, false), vote(999999, true), vote(999999, false), vote(16384, true),
		answer(1, true, 0, 0), answer(1, false, 0, 0), answer(999999, true, 999999, 1<<30), answer(999999, false, 0, 1<<30), answer(3, false, 999999, 0),
		appending(1, 0, 0, 0, 0), appending(999999, 999999, 999999, 999999, 1<<30), appending(5, 0, 5, 999999, 0), appending(5, 999999, 0, 0, 1<<30),
		appending(1, 0, 0, 0, 0, none(1, 1)), appending(1, 0, 1, 0, 0, command(1, 1, "")), appending(999999, 999998, 999999, 0, 0, none(999999, 999999)),
		appending(2, 7, 0, 9, 1, grouping(8, 1, 5), grouping(9, 1, 1, 2, 3, 4, 5), grouping(10, 2, 1), grouping(11, 2, 1, 2)),
		appending(999999, 999995, 0, 0, 0, command(999996, 1, many(8000)), command(999997, 1, many(8000)), command(999998, 999999, many(8000)), command(999999, 999999, many(8000))),
		appending(4, 0, 1, 0, 0, none(1, 1), none(2, 2), none(3, 3), none(4, 4)),
		some(), installing(),
		install(1, 0, snapshot(1, 0, "", 1)), install(1, 1<<30, snapshot(1, 1, "x", 5)), install(999999, 1<<30, snapshot(999998, 999999, many(300000), 1, 2, 3, 4, 5)),
		install(999999, 0, snapshot(999998, 0, "", 1, 2)), install(128, 127, snapshot(128, 128, many(128), 4)),
	}
	for from := 1; from <= 5; from++ {
		for to := 1; to <= 5; to++ {
			if from != to {
				l = append(l, with(vote(3, true), func(m *api.Letter) { m.From, m.To = from, to }))
			}
		}
	}
	return l
}

// told writes a letter so that two are told alike if they have the same; a list of none is none.
func told(m api.Letter) string {
	var b strings.Builder
	fmt.Fprintf(&b, "%d %d %d %d, %d %d %d %d %v", m.Kind, m.From, m.To, m.Term, m.Index, m.LogTerm, m.Commit, m.Round, m.Ok)
	for _, e := range m.Entries {
		fmt.Fprintf(&b, "; %d %d %d %q %d", e.Index, e.Term, e.Kind, e.Data, e.Nodes)
	}
	fmt.Fprintf(&b, "; %d %d %d %q", m.Snap.Index, m.Snap.Term, m.Snap.Nodes, m.Snap.Data)
	return b.String()
}

// writeOver writes over all lists of a letter, and the room behind them.
func writeOver(m api.Letter) {
	fill(m.Snap.Data[:cap(m.Snap.Data)], '!')
	fill(m.Snap.Nodes[:cap(m.Snap.Nodes)], -7)
	for _, e := range m.Entries {
		fill(e.Data[:cap(e.Data)], '!')
		fill(e.Nodes[:cap(e.Nodes)], -7)
	}
	fill(m.Entries[:cap(m.Entries)], grouping(-7, -7, -7))
}

func fill[T any](l []T, with T) {
	for i := range l {
		l[i] = with
	}
}

// encode is Encode, of which it is also checked that Right says the same, that the letter stays, and that what came out is memory of its own.
func encode(t *testing.T, m api.Letter) ([]byte, api.Errno) {
	t.Helper()
	was := told(m)
	right := Right(m)
	b, err := Encode(m)
	if right != (err == api.OK) || err != api.OK && (err != api.ErrArg || len(b) != 0) {
		t.Errorf("Right is %v, Encode %.60q, %v, of %.300s", right, b, err, was)
	}
	got := slices.Clone(b)
	fill(b[:cap(b)], 9)
	again, errAgain := Encode(m)
	if told(m) != was || !slices.Equal(again, got) || errAgain != err {
		t.Errorf("Encode changed %.300s, or tells otherwise once more", was)
	}
	return again, err
}

// decode is Decode, of which it is also checked that b stays, that what came out does not hang on it, and that it is memory of its own in all its lists.
func decode(t *testing.T, b []byte) (api.Letter, error) {
	t.Helper()
	in := append(slices.Clone(b), 1, 2, 3)
	m, err := Decode(in[:len(b)])
	if !slices.Equal(in, append(slices.Clone(b), 1, 2, 3)) {
		t.Errorf("Decode changed %.60v", b)
	}
	was := told(m)
	fill(in, '!')
	if told(m) != was {
		t.Errorf("Decode of %.60v hangs on what was handed in", b)
	}
	checkApart(t, m)
	writeOver(m)
	again, errAgain := Decode(b)
	if told(again) != was || (err == nil) != (errAgain == nil) {
		t.Errorf("Decode tells otherwise once more of %.60v", b)
	}
	return again, errAgain
}

// checkApart: no two lists of a letter share memory, nor the room behind them. They are written over.
func checkApart(t *testing.T, m api.Letter) {
	t.Helper()
	bytes, nodes := [][]byte{m.Snap.Data}, [][]int{m.Snap.Nodes}
	for _, e := range m.Entries {
		bytes, nodes = append(bytes, e.Data), append(nodes, e.Nodes)
	}
	areApart(t, bytes, []byte("abcde"))
	areApart(t, nodes, []int{1, 2, 3, 4, 5})
}

// areApart: each list may be filled with a mark of its own, and keeps it.
func areApart[T comparable](t *testing.T, lists [][]T, marks []T) {
	t.Helper()
	for i, l := range lists {
		fill(l[:cap(l)], marks[i])
	}
	for i, l := range lists {
		if slices.ContainsFunc(l[:cap(l)], func(x T) bool { return x != marks[i] }) {
			t.Error("two lists of what was read share memory")
		}
	}
}
