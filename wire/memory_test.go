package wire

import (
	"slices"
	"testing"

	"scriptorium/api"
)

// lists is a letter with room behind each of its lists.
func lists(m api.Letter) api.Letter {
	m.Snap.Data = roomy(m.Snap.Data, 'r')
	m.Snap.Nodes = roomy(m.Snap.Nodes, 9)
	m.Entries = roomy(m.Entries, grouping(9, 9, 9))
	for i := range m.Entries {
		e := &m.Entries[i]
		e.Data, e.Nodes = roomy(e.Data, 'r'), roomy(e.Nodes, 9)
	}
	return m
}

// roomy is a list like l, with some behind it that are no part of it.
func roomy[T any](l []T, behind T) []T {
	return append(slices.Clone(l), behind, behind, behind)[:len(l)]
}

// whole tells a letter with the room behind its lists.
func whole(m api.Letter) string {
	m.Entries = slices.Clone(m.Entries[:cap(m.Entries)])
	for i := range m.Entries {
		e := &m.Entries[i]
		e.Data, e.Nodes = e.Data[:cap(e.Data)], e.Nodes[:cap(e.Nodes)]
	}
	m.Snap.Data, m.Snap.Nodes = m.Snap.Data[:cap(m.Snap.Data)], m.Snap.Nodes[:cap(m.Snap.Nodes)]
	return told(m)
}

// What is handed in to Right and Encode is not changed, nor the room behind it; and what came out does not hang on it.
func TestLetterHandedIn(t *testing.T) {
	for _, m := range append(rightLetters(), heads()...) {
		in := lists(m)
		was := whole(in)
		if !Right(in) {
			t.Fatalf("this is not right: %.300s", was)
		}
		b, err := Encode(in)
		if whole(in) != was {
			t.Errorf("it is %.300s now, not %.300s", whole(in), was)
		}
		writeOver(in)
		if err != api.OK || !slices.Equal(b, written(fields(m))) {
			t.Errorf("Encode of %.300s is %.60q now, %v", was, b, err)
		}
	}
}

func TestWrongLetterHandedIn(t *testing.T) {
	for what, m := range wrongAppends() {
		in := lists(m)
		was := whole(in)
		if _, err := Encode(in); err != api.ErrArg || whole(in) != was {
			t.Errorf("%s: %v, it is %.300s now, not %.300s", what, err, whole(in), was)
		}
	}
}

// What came out is its owner's: two that were read from the same bytes do not hang together, nor their lists.
func TestOwned(t *testing.T) {
	for _, m := range append(rightLetters(), fieldLetters()...) {
		b := written(fields(m))
		one, _ := Decode(b)
		two, _ := Decode(b)
		writeOver(one)
		if told(two) != told(m) {
			t.Errorf("it is %.300s now, not %.300s", told(two), told(m))
		}
		// More may be put behind each list, and the others stay.
		for i := range two.Entries {
			e := &two.Entries[i]
			e.Data, e.Nodes = append(e.Data, 7)[:len(e.Data)], append(e.Nodes, 7)[:len(e.Nodes)]
		}
		two.Snap.Nodes = append(two.Snap.Nodes, 7)[:len(two.Snap.Nodes)]
		if told(two) != told(m) {
			t.Errorf("behind more it is %.300s, not %.300s", told(two), told(m))
		}
	}
}

// Faults are new each time.
func TestFaultOwned(t *testing.T) {
	_, one := Decode([]byte{2, 9})
	one.(*api.Fault).At = 77
	_, two := Decode([]byte{2, 9})
	if f := two.(*api.Fault); *f != (api.Fault{At: 1, Err: api.ErrCode}) {
		t.Errorf("the fault is %+v now", *f)
	}
}

// Nothing is kept from call to call: a row of calls answers as each of them alone.
func TestNothingIsKept(t *testing.T) {
	var alone []string
	l := rightLetters()
	for _, m := range l {
		b, _ := Encode(m)
		alone = append(alone, string(b))
	}
	for i := range l {
		j := (i*7 + 3) % len(l)
		Decode([]byte(alone[i]))
		Decode([]byte{5, 1, 2, 3, 4, 5, 6})
		Encode(with(l[i], func(m *api.Letter) { m.To = m.From }))
		if b, _ := Encode(l[j]); string(b) != alone[j] {
			t.Errorf("the letter %d is written as %.60q now", j, b)
		}
		if m, err := Decode([]byte(alone[j])); err != nil || told(m) != told(l[j]) {
			t.Errorf("the letter %d is read as %.300s now, %v", j, told(m), err)
		}
	}
}
