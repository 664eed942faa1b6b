package wire

import (
	"fmt"
	"math"
	"slices"
	"testing"

	"scriptorium/api"
)

// bound is a number of a letter, where it stands, and from what to what it may be.
type bound struct {
	what        string
	m           api.Letter
	at          func(m *api.Letter) *int
	least, most int
}

// heads are what a letter of each Kind has, from 1 to 2 in the term 7.
func heads() []api.Letter {
	l := []api.Letter{ask(7, 5, 6), vote(7, true), appending(7, 5, 6, 4, 3, command(6, 6, "x"), none(7, 7)), answer(7, true, 5, 4), install(7, 3, snapshot(6, 5, "x", 1, 4))}
	for i := range l {
		l[i].From, l[i].To = 1, 2
	}
	return l
}

// bounds are those of all numbers that each Kind has. What others are held against, as the term, has bounds of its own below.
func bounds() []bound {
	var l []bound
	for _, m := range heads() {
		l = append(l, bound{"From", with(m, func(m *api.Letter) { m.To = 6 - m.Kind }), func(m *api.Letter) *int { return &m.From }, 1, 5})
		l = append(l, bound{"To", with(m, func(m *api.Letter) { m.From = m.Kind }), func(m *api.Letter) *int { return &m.To }, 1, 5})
	}
	h := heads()
	index := func(m *api.Letter) *int { return &m.Index }
	round := func(m *api.Letter) *int { return &m.Round }
	logTerm := func(m *api.Letter) *int { return &m.LogTerm }
	l = append(l, bound{"Index", h[0], index, 0, 999999}, bound{"Index", appending(7, 0, 1, 0, 0), index, 0, 999999}, bound{"Index", h[3], index, 0, 999999})
	l = append(l, bound{"LogTerm", h[0], logTerm, 0, 7}, bound{"LogTerm", h[2], logTerm, 0, 6}, bound{"LogTerm", appending(999999, 0, 0, 0, 0), logTerm, 0, 999999})
	l = append(l, bound{"Commit", h[2], func(m *api.Letter) *int { return &m.Commit }, 0, 999999})
	l = append(l, bound{"Round", h[2], round, 0, 1 << 30}, bound{"Round", h[3], round, 0, 1 << 30}, bound{"Round", h[4], round, 0, 1 << 30})
	l = append(l, bound{"the snapshot's Index", h[4], func(m *api.Letter) *int { return &m.Snap.Index }, 1, 999998})
	l = append(l, bound{"the snapshot's Term", h[4], func(m *api.Letter) *int { return &m.Snap.Term }, 0, 7})
	l = append(l, bound{"an entry's Index", h[2], func(m *api.Letter) *int { return &m.Entries[0].Index }, 6, 6})
	l = append(l, bound{"an entry's Index", h[2], func(m *api.Letter) *int { return &m.Entries[1].Index }, 7, 7})
	l = append(l, bound{"an entry's Term", h[2], func(m *api.Letter) *int { return &m.Entries[0].Term }, 6, 7})
	l = append(l, bound{"an entry's Term", appending(7, 0, 0, 0, 0, none(1, 1)), func(m *api.Letter) *int { return &m.Entries[0].Term }, 1, 7})
	l = append(l, bound{"an entry's Term", h[2], func(m *api.Letter) *int { return &m.Entries[1].Term }, 6, 7})
	return append(l, bound{"an entry's Kind", appending(7, 0, 0, 0, 0, none(1, 1)), func(m *api.Letter) *int { return &m.Entries[0].Kind }, 0, 1})
}

// The Term may be from 1, or the greatest of those that are held against it, to the greatest there is.
func terms() []bound {
	var l []bound
	for i, least := range []int{6, 1, 7, 1, 5} {
		l = append(l, bound{"Term", heads()[i], func(m *api.Letter) *int { return &m.Term }, least, 999999})
	}
	for _, m := range []api.Letter{ask(7, 5, 0), appending(7, 0, 0, 0, 0), install(7, 0, snapshot(1, 0, "", 1))} {
		l = append(l, bound{"Term", m, func(m *api.Letter) *int { return &m.Term }, 1, 999999})
	}
	return l
}

func TestBounds(t *testing.T) {
	for _, b := range append(bounds(), terms()...) {
		near := []int{b.least, b.least + 1, (b.least + b.most) / 2, b.most - 1, b.most}
		far := []int{b.least - 1, b.most + 1, b.least - 2, b.most + 2, -1, math.MinInt, math.MaxInt, b.most + 1<<32, b.most + 256}
		for _, n := range append(near, far...) {
			m := with(b.m, func(m *api.Letter) { *b.at(m) = n })
			if b.what == "From" && n == m.To || b.what == "To" && n == m.From {
				checkWrong(t, m)
				continue
			}
			if want := b.least <= n && n <= b.most; Right(m) != want {
				t.Errorf("%s of the Kind %d is %d: Right is %v", b.what, m.Kind, n, !want)
			} else if want {
				checkEncode(t, m, string(written(fields(m))))
			} else {
				checkWrong(t, m)
			}
		}
	}
}

// All pairs of nodes but those who would write to themselves.
func TestFromAndTo(t *testing.T) {
	for _, m := range heads() {
		for m.From = -1; m.From < 8; m.From++ {
			for m.To = -1; m.To < 8; m.To++ {
				want := m.From > 0 && m.From < 6 && m.To > 0 && m.To < 6 && m.From != m.To
				if Right(m) != want {
					t.Errorf("from %d to %d, Kind %d: Right is %v", m.From, m.To, m.Kind, !want)
				}
			}
		}
	}
}

// Of no Kind nothing is right, whatever it has.
func TestKinds(t *testing.T) {
	checkWrong(t, api.Letter{})
	for _, kind := range []int{math.MinInt, -1, 0, 6, 7, 257, 258, 1<<32 + 2, math.MaxInt} {
		checkWrong(t, api.Letter{Kind: kind, From: 1, To: 2, Term: 3})
		for _, m := range heads() {
			m.Kind = kind
			checkWrong(t, m)
		}
	}
}

// more is a letter's field that only some Kinds have, and how it is filled.
type more struct {
	what string
	of   []int
	fill func(m *api.Letter)
}

func fieldsOfKinds() []more {
	return []more{
		{"Index", []int{1, 3, 4}, func(m *api.Letter) { m.Index = 1 }},
		{"LogTerm", []int{1, 3}, func(m *api.Letter) { m.LogTerm = 1 }},
		{"Ok", []int{2, 4}, func(m *api.Letter) { m.Ok = true }},
		{"Commit", []int{3}, func(m *api.Letter) { m.Commit = 1 }},
		{"Round", []int{3, 4, 5}, func(m *api.Letter) { m.Round = 1 }},
		{"Entries", []int{3}, func(m *api.Letter) { m.Entries = []api.Entry{none(m.Index+1, 7)} }},
		{"an empty entry", nil, func(m *api.Letter) { m.Entries = append(m.Entries, api.Entry{}) }},
		{"the snapshot's Index", []int{5}, func(m *api.Letter) { m.Snap.Index = 1 }},
		{"the snapshot's Term", []int{5}, func(m *api.Letter) { m.Snap.Term = 1 }},
		{"the snapshot's Nodes", []int{5}, func(m *api.Letter) { m.Snap.Nodes = []int{1} }},
		{"the snapshot's Data", []int{5}, func(m *api.Letter) { m.Snap.Data = []byte{0} }},
		{"a whole snapshot", []int{5}, func(m *api.Letter) { m.Snap = snapshot(1, 1, "x", 1) }},
	}
}

func TestFieldsOfOtherKinds(t *testing.T) {
	bare := []api.Letter{ask(7, 0, 0), vote(7, false), appending(7, 0, 0, 0, 0), answer(7, false, 0, 0), install(7, 0, snapshot(1, 0, "", 2))}
	for _, m := range append(bare, heads()...) {
		if !Right(m) {
			t.Fatalf("this is not right: %s", told(m))
		}
		if m.Kind == 3 {
			m.Entries = nil
		}
		for _, f := range fieldsOfKinds() {
			changed := with(m, f.fill)
			if slices.Contains(f.of, m.Kind) {
				checkEncode(t, changed, string(written(fields(changed))))
			} else {
				checkWrong(t, changed)
			}
		}
	}
}

// Below 0 is not zero, either.
func TestFieldsOfOtherKindsBelowNought(t *testing.T) {
	for _, m := range heads() {
		for _, n := range numbersOf(&m) {
			if was := *n; was == 0 {
				for _, *n = range []int{-1, math.MinInt, 1, 999999, 1000000, 1 << 30, math.MaxInt} {
					if m.Kind != 3 || n != &m.Entries[1].Kind || *n != 1 {
						checkWrong(t, m)
					}
				}
				*n = was
			}
		}
	}
}

// wrongAppends are of entries that do not go on, or may not be.
func wrongAppends() map[string]api.Letter {
	nodes := func(l ...int) api.Letter { return appending(7, 5, 2, 0, 0, grouping(6, 3, l...)) }
	body := func(kind int, data []byte, nodes ...int) api.Letter {
		return appending(7, 5, 2, 0, 0, api.Entry{Index: 6, Term: 3, Kind: kind, Data: data, Nodes: nodes})
	}
	return map[string]api.Letter{
		"begins at Index": appending(7, 5, 2, 0, 0, none(5, 3)), "begins behind a gap": appending(7, 5, 2, 0, 0, none(7, 3)), "begins at 0": appending(7, 0, 2, 0, 0, none(0, 3)),
		"an Index twice": appending(7, 5, 2, 0, 0, none(6, 3), none(6, 3)), "an Index left out": appending(7, 5, 2, 0, 0, none(6, 3), none(8, 3)),
		"turned round": appending(7, 5, 2, 0, 0, none(7, 3), none(6, 3)), "the last left behind": appending(7, 5, 2, 0, 0, none(6, 3), none(7, 3), none(8, 3), none(8, 3)),
		"begins below LogTerm": appending(7, 5, 4, 0, 0, none(6, 3)), "falls": appending(7, 5, 2, 0, 0, none(6, 3), none(7, 2)), "falls at last": appending(7, 5, 2, 0, 0, none(6, 3), none(7, 4), none(8, 4), none(9, 3)),
		"falls behind a rise": appending(7, 5, 2, 0, 0, none(6, 2), none(7, 7), none(8, 6)), "above Term": appending(7, 5, 2, 0, 0, none(6, 8)), "above Term at last": appending(7, 5, 2, 0, 0, none(6, 3), none(7, 8)),
		"of the term 0": appending(7, 5, 0, 0, 0, none(6, 0)), "below the term 0": appending(7, 5, 0, 0, 0, none(6, -1)), "five": appending(7, 5, 2, 0, 0, none(6, 3), none(7, 3), none(8, 3), none(9, 3), none(10, 3)),
		"none with Data": body(0, []byte{0}), "none with Nodes": body(0, nil, 1), "a command with Nodes": body(1, []byte("x"), 1), "an empty command with Nodes": body(1, nil, 1), "nodes with Data": body(2, []byte{0}, 1), "nodes with Data alone": body(2, []byte("x")),
		"Kind 3": body(3, nil), "Kind 3 with all": body(3, []byte("x"), 1), "Kind -1": body(-1, nil), "Kind 257": body(257, nil), "Data too long": body(1, []byte(many(8001))), "none with long Data": body(0, []byte(many(8001))),
		"no group": nodes(), "an empty list": nodes([]int{}...), "falling": nodes(2, 1), "a node twice": nodes(1, 1), "twice at last": nodes(1, 2, 3, 3), "node 0": nodes(0), "node 0 ahead": nodes(0, 1), "node 6": nodes(6), "node 6 behind": nodes(1, 6), "six nodes": nodes(1, 2, 3, 4, 5, 6), "below 0": nodes(-1, 1),
	}
}

func TestWrongAppends(t *testing.T) {
	for what, m := range wrongAppends() {
		if Right(m) {
			t.Errorf("%s: this is right", what)
		}
		checkWrong(t, m)
		// Nor is it right behind entries that are.
		for len(m.Entries) < 4 && what != "five" {
			m.Index, m.LogTerm = m.Index-1, min(m.LogTerm, 1)
			if what == "begins below LogTerm" {
				m.Entries = append([]api.Entry{none(m.Index+1, 4)}, m.Entries...)
			} else {
				m.Entries = append([]api.Entry{none(m.Index+1, 1)}, m.Entries...)
			}
			if m.Index < 0 {
				break
			}
			checkWrong(t, m)
		}
	}
}

// Each place of a batch may have what is wrong.
func TestWrongAtEachEntry(t *testing.T) {
	l := []api.Entry{none(6, 3), command(7, 4, "x"), grouping(8, 5, 1, 2), none(9, 6)}
	checkEncode(t, appending(7, 5, 2, 0, 0, l...), string(written(fields(appending(7, 5, 2, 0, 0, l...)))))
	for i, e := range l {
		for what, change := range map[string]func(e *api.Entry){
			"Index below": func(e *api.Entry) { e.Index-- }, "Index above": func(e *api.Entry) { e.Index++ },
			"Term falls": func(e *api.Entry) { e.Term = 1 }, "Term above": func(e *api.Entry) { e.Term = 8 }, "Kind": func(e *api.Entry) { e.Kind = 3 },
			"Data": func(e *api.Entry) { e.Data = []byte(many(8001)) }, "Nodes": func(e *api.Entry) { e.Nodes = []int{2, 1} },
		} {
			changed := e
			change(&changed)
			m := appending(7, 5, 2, 0, 0, slices.Replace(slices.Clone(l), i, i+1, changed)...)
			if Right(m) {
				t.Errorf("%s of the entry %d: this is right", what, i)
			}
			checkWrong(t, m)
		}
	}
}

// Terms that stay, rise by one, and leap; LogTerm at the first one's, and each at Term.
func TestTermsThatDoNotFall(t *testing.T) {
	for _, terms := range [][]int{{2, 2, 2, 2}, {2, 3, 4, 5}, {7, 7, 7, 7}, {2, 2, 7, 7}, {3, 7, 7, 7}, {2}, {7}, {2, 7}} {
		var l []api.Entry
		for i, term := range terms {
			l = append(l, none(6+i, term))
		}
		m := appending(7, 5, 2, 0, 0, l...)
		checkEncode(t, m, string(written(fields(m))))
		m.LogTerm = terms[0]
		checkEncode(t, m, string(written(fields(m))))
		m.LogTerm++
		checkWrong(t, m)
		m.LogTerm, m.Term = 0, terms[len(terms)-1]
		checkEncode(t, m, string(written(fields(m))))
		m.Term--
		checkWrong(t, m)
	}
}

// No entry has an Index above MaxIndex, wherever it stands among others; up to there each has one.
func TestEntriesBehindMaxIndex(t *testing.T) {
	kinds := []func(index int) api.Entry{
		func(index int) api.Entry { return none(index, 3) },
		func(index int) api.Entry { return command(index, 3, "x") },
		func(index int) api.Entry { return grouping(index, 3, 1, 2) },
	}
	for index := 999994; index <= 999999; index++ {
		for size := range 5 {
			m := appending(7, index, 2, 0, 0)
			for i := range size {
				m.Entries = append(m.Entries, kinds[i%3](index+1+i))
			}
			if index+size <= 999999 {
				checkEncode(t, m, string(written(fields(m))))
				continue
			}
			checkWrong(t, m)
			b := written(fields(m))
			checkFault(t, b, 0)
			checkFault(t, append(b, 0), len(b))
		}
	}
	for _, kind := range kinds {
		m := appending(7, 999999, 2, 0, 0, kind(1000000))
		checkWrong(t, m)
		checkFault(t, written(fields(m)), 0)
	}
	checkWrong(t, appending(7, 1000000, 2, 0, 0, none(1000001, 3)))
	checkWrong(t, appending(7, math.MaxInt, 2, 0, 0, none(math.MinInt, 3)))
	checkWrong(t, appending(7, -1, 2, 0, 0, none(0, 3)))
}

func TestWrongInstalls(t *testing.T) {
	for _, x := range []api.Snap{
		{}, snapshot(0, 0, "", 1), snapshot(0, 1, "x", 1), snapshot(-1, 1, "x", 1), snapshot(999999, 1, "x", 1), snapshot(1000000, 1, "x", 1),
		snapshot(1, -1, "x", 1), snapshot(1, 8, "x", 1), snapshot(1, 999999, "x", 1), snapshot(1, 1, many(300001), 1),
		snapshot(1, 1, "x"), snapshot(1, 1, "x", []int{}...), snapshot(1, 1, "x", 2, 1), snapshot(1, 1, "x", 2, 2), snapshot(1, 1, "x", 0), snapshot(1, 1, "x", 1, 6), snapshot(1, 1, "x", 1, 2, 3, 4, 5, 6),
	} {
		checkWrong(t, install(7, 3, x))
	}
	checkEncode(t, install(7, 3, snapshot(1, 7, "x", 1)), "\x05\x04\x01\x07\x01\x07\x01\x01\x01x\x03")
	checkWrong(t, install(6, 3, snapshot(1, 7, "x", 1)))
	checkWrong(t, install(999999, 3, snapshot(1, 1000000, "x", 1)))
}

// All rows of up to five numbers, as a snapshot's and an entry's nodes.
func TestGroups(t *testing.T) {
	found := 0
	var grow func(nodes []int)
	grow = func(nodes []int) {
		group := len(nodes) > 0
		for i, n := range nodes {
			group = group && n > 0 && n < 6 && (i == 0 || n > nodes[i-1])
		}
		if Right(install(7, 3, snapshot(1, 7, "", nodes...))) != group || Right(appending(7, 0, 0, 0, 0, grouping(1, 1, nodes...))) != group {
			t.Fatalf("%v: a group: %v", nodes, group)
		}
		if group {
			found++
		}
		if len(nodes) < 5 {
			for n := range 7 {
				grow(append(slices.Clone(nodes), n))
			}
		}
	}
	grow(nil)
	if found != 31 {
		t.Errorf("%d are groups", found)
	}
}

// Many letters are held against another reading of what is right.
func TestRightOfMany(t *testing.T) {
	count := map[string]int{}
	for start := range 4 {
		draw := draws(start)
		for range 30000 {
			m := drawnLetter(draw)
			want := otherRight(m)
			if Right(m) != want {
				t.Fatalf("Right is %v of %.300s", !want, told(m))
			}
			if b, err := Encode(m); (err == api.OK) != want || want && !slices.Equal(b, written(fields(m))) {
				t.Fatalf("Encode is %q, %v of %.300s", b, err, told(m))
			}
			count[fmt.Sprint(m.Kind, want)]++
		}
	}
	for kind := 1; kind <= 5; kind++ {
		if right, wrong := count[fmt.Sprint(kind, true)], count[fmt.Sprint(kind, false)]; right < 5000 || wrong < 1000 {
			t.Errorf("of the Kind %d only %d are right, %d wrong", kind, right, wrong)
		}
	}
}
