package wire

import (
	"encoding/binary"
	"slices"

	"scriptorium/api"
)

// walker is handed each part of a letter's bytes: a number, or a text, and how great it may be.
type walker struct {
	number func(n *int, most int)
	text   func(b *[]byte, most int)
}

// walk goes over all that stands in a letter's bytes, be it written or read, in its order.
func (w walker) walk(m *api.Letter) {
	w.number(&m.Kind, 5)
	w.number(&m.From, 5)
	w.number(&m.To, 5)
	w.number(&m.Term, 999999)
	switch m.Kind {
	case 1:
		w.number(&m.Index, 999999)
		w.number(&m.LogTerm, 999999)
	case 2:
		w.ok(&m.Ok)
	case 3:
		w.number(&m.Index, 999999)
		w.number(&m.LogTerm, 999999)
		w.number(&m.Commit, 999999)
		w.number(&m.Round, 1073741824)
		walkList(w, &m.Entries, 4, w.entry)
	case 4:
		w.ok(&m.Ok)
		w.number(&m.Index, 999999)
		w.number(&m.Round, 1073741824)
	case 5:
		w.number(&m.Snap.Index, 999999)
		w.number(&m.Snap.Term, 999999)
		w.nodes(&m.Snap.Nodes)
		w.text(&m.Snap.Data, 300000)
		w.number(&m.Round, 1073741824)
	}
}

func (w walker) ok(ok *bool) {
	n := 0
	if *ok {
		n = 1
	}
	w.number(&n, 1)
	*ok = n == 1
}

func (w walker) entry(e *api.Entry) {
	w.number(&e.Term, 999999)
	w.number(&e.Kind, 2)
	switch e.Kind {
	case 1:
		w.text(&e.Data, 8000)
	case 2:
		w.nodes(&e.Nodes)
	}
}

func (w walker) nodes(l *[]int) {
	walkList(w, l, 5, func(n *int) { w.number(n, 5) })
}

// walkList goes over how many there are, and each; where they are read, they are made.
func walkList[T any](w walker, l *[]T, most int, each func(*T)) {
	n := len(*l)
	w.number(&n, most)
	for len(*l) < n {
		*l = append(*l, *new(T))
	}
	for i := range *l {
		each(&(*l)[i])
	}
}

// field is a part of a letter's bytes.
type field struct {
	text   bool
	number uint64
	chars  string
	most   int
}

func (f field) bytes() []byte {
	if f.text {
		return append(binary.AppendUvarint(nil, uint64(len(f.chars))), f.chars...)
	}
	return binary.AppendUvarint(nil, f.number)
}

// fields are those of a letter, right or not, without what its Kind does not have.
func fields(m api.Letter) []field {
	var l []field
	walker{
		number: func(n *int, most int) { l = append(l, field{number: uint64(*n), most: most}) },
		text:   func(b *[]byte, most int) { l = append(l, field{text: true, chars: string(*b), most: most}) },
	}.walk(&m)
	return l
}

// written are these fields' bytes.
func written(l []field) []byte {
	var b []byte
	for _, f := range l {
		b = append(b, f.bytes()...)
	}
	return b
}

// replaced is a row of fields of which one is another.
func replaced(l []field, i int, f field) []field {
	l = slices.Clone(l)
	l[i] = f
	return l
}

// fine is the place where all could be read.
const fine = -1

// otherNumber reads a number once more: written anew it must be the same.
func otherNumber(b []byte) (uint64, int) {
	n, size := binary.Uvarint(b)
	if size <= 0 || len(binary.AppendUvarint(nil, n)) != size {
		return 0, 0
	}
	return n, size
}

// otherRead reads a letter once more, right or not: the first place at which it could not go on, how many bytes it passed. From that place on it reads nothing but noughts.
func otherRead(b []byte) (m api.Letter, bad, passed int) {
	bad = fine
	number := func(most int) int {
		n, size := otherNumber(b[passed:])
		if bad == fine && (size == 0 || n > uint64(most)) {
			bad = passed
		}
		if bad != fine {
			return 0
		}
		passed += size
		return int(n)
	}
	walker{
		number: func(n *int, most int) { *n = number(most) },
		text: func(into *[]byte, most int) {
			at := passed
			size := number(most)
			if bad != fine || len(b)-passed < size {
				bad, passed = at, at
				return
			}
			*into = slices.Clone(b[passed:][:size])
			passed += size
		},
	}.walk(&m)
	for i := range m.Entries {
		m.Entries[i].Index = m.Index + 1 + i
	}
	return m, bad, passed
}

// otherDecode is the letter that is read, and fine; or the place of the fault.
func otherDecode(b []byte) (api.Letter, int) {
	m, bad, passed := otherRead(b)
	switch {
	case bad != fine:
		return api.Letter{}, bad
	case m.Kind == 0:
		return api.Letter{}, 0
	case passed < len(b):
		return api.Letter{}, passed
	case !otherRight(m):
		return api.Letter{}, 0
	}
	return m, fine
}

// otherRight is Right once more: what is wrong is counted; and what is not named, is what such a letter made anew has not.
func otherRight(m api.Letter) bool {
	named := map[int]api.Letter{
		1: {Index: m.Index, LogTerm: m.LogTerm},
		2: {Ok: m.Ok},
		3: {Index: m.Index, LogTerm: m.LogTerm, Commit: m.Commit, Round: m.Round, Entries: m.Entries},
		4: {Ok: m.Ok, Index: m.Index, Round: m.Round},
		5: {Snap: m.Snap, Round: m.Round},
	}
	anew, there := named[m.Kind]
	anew.Kind, anew.From, anew.To, anew.Term = m.Kind, m.From, m.To, m.Term
	wrong := beyond(m.From, 1, 5) + beyond(m.To, 1, 5) + beyond(m.Term, 1, 999999)
	wrong += beyond(m.Index, 0, 999999) + beyond(m.Commit, 0, 999999) + beyond(m.LogTerm, 0, m.Term) + beyond(m.Round, 0, 1073741824)
	wrong += beyond(len(m.Entries), 0, 4)
	last := api.Entry{Index: m.Index, Term: m.LogTerm}
	for _, e := range m.Entries {
		wrong += beyond(e.Term, max(1, last.Term), m.Term) + beyond(e.Index-last.Index, 1, 1) + beyond(e.Index, 1, 999999) + wrongBody(e)
		last = e
	}
	if m.Kind == 5 {
		wrong += beyond(m.Snap.Index, 1, 999998) + beyond(m.Snap.Term, 0, m.Term) + wrongGroup(m.Snap.Nodes) + beyond(len(m.Snap.Data), 0, 300000)
	}
	return there && wrong == 0 && m.From != m.To && told(anew) == told(m)
}

func beyond(n, least, most int) int {
	if n < least || n > most {
		return 1
	}
	return 0
}

func wrongBody(e api.Entry) int {
	wrong := 0
	if e.Kind != 1 {
		wrong += len(e.Data)
	}
	if e.Kind != 2 {
		wrong += len(e.Nodes)
	} else {
		wrong += wrongGroup(e.Nodes)
	}
	return wrong + beyond(e.Kind, 0, 2) + beyond(len(e.Data), 0, 8000)
}

func wrongGroup(nodes []int) int {
	wrong := beyond(len(nodes), 1, 5)
	for i, n := range nodes {
		wrong += beyond(n, 1, 5)
		if i > 0 && nodes[i-1] >= n {
			wrong++
		}
	}
	return wrong
}
