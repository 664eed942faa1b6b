package stable

import (
	"bytes"

	"scriptorium/api"
	"scriptorium/crc"
	"scriptorium/parts"
	"scriptorium/snap"
)

// sumBytes is how many bytes the sum at a file's end has.
const sumBytes = 4

func hardBytes(term, vote int) []byte {
	return sealed(parts.PutNumbers(nil, term, vote))
}

func snapBytes(x api.Snap) []byte {
	return sealed(parts.PutSnap(nil, x))
}

// record leaves an entry's Index out, as the record's number tells it.
func record(e api.Entry) []byte {
	b := parts.PutNumbers(nil, e.Term, e.Kind)
	switch e.Kind {
	case api.KindCommand:
		b = append(b, e.Data...)
	case api.KindNodes:
		b = parts.PutGroup(b, e.Nodes)
	}
	return b
}

// sealed is b and its sum, the lowest byte first.
func sealed(b []byte) []byte {
	sum := crc.Sum(b)
	for range sumBytes {
		b = append(b, byte(sum))
		sum >>= 8
	}
	return b
}

// unsealed is what was sealed; false, if b was not.
func unsealed(b []byte) ([]byte, bool) {
	end := len(b) - sumBytes
	if end < 0 {
		return nil, false
	}
	// Without room behind it, the sum is not written over the one that it is held against.
	summed := b[:end:end]
	return summed, bytes.Equal(sealed(summed), b)
}

// reader reads numbers, texts and groups one behind the other. From the first on that can't be read, or may not be, it is bad, and what it tells counts for nothing.
type reader struct {
	rest []byte
	bad  bool
}

// number reads one from least, which is not below 0, to most.
func (r *reader) number(least, most int) int {
	n, size := snap.GetNumber(r.rest)
	if size == 0 || n < uint64(least) || n > uint64(most) {
		r.bad = true
		return 0
	}
	r.rest = r.rest[size:]
	return int(n)
}

func (r *reader) group() []int {
	var nodes []int
	node := 0
	for range r.number(1, api.MaxNodes) {
		node = r.number(node+1, api.MaxNodes)
		nodes = append(nodes, node)
	}
	return nodes
}

func (r *reader) text(most int) []byte {
	s, size := snap.GetText(r.rest, most)
	if size == 0 {
		r.bad = true
		return nil
	}
	r.rest = r.rest[size:]
	return []byte(s)
}

// left is all that is left, as it is. It is copied, so that it does not keep a whole segment of the log in memory.
func (r *reader) left(most int) []byte {
	if len(r.rest) > most {
		r.bad = true
		return nil
	}
	b := bytes.Clone(r.rest)
	r.rest = nil
	return b
}

// end is ErrBad, if something could not be read, or is left.
func (r *reader) end() api.Errno {
	if r.bad || len(r.rest) > 0 {
		return api.ErrBad
	}
	return api.OK
}

// readEntry is the entry whose record b is; ErrBad, if it is none's.
func readEntry(index int, b []byte) (api.Entry, api.Errno) {
	r := &reader{rest: b}
	e := api.Entry{Index: index}
	e.Term = r.number(1, api.MaxTerm)
	e.Kind = r.number(api.KindNone, api.KindNodes)
	switch e.Kind {
	case api.KindCommand:
		e.Data = r.left(api.MaxData)
	case api.KindNodes:
		e.Nodes = r.group()
	}
	if err := r.end(); err != api.OK {
		return api.Entry{}, err
	}
	return e, api.OK
}
