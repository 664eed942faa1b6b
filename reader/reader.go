// Package reader reads numbers and texts (shared/doc/13-snap.md) one behind the other, and gives up at the first that can't be read.
package reader

import "scriptorium/api"

// maxGroups is how many groups of seven bits the greatest number has; its last group has one bit alone.
const maxGroups = 10

// Number is the number with which b begins, and how many bytes it has; 0 and 0, if it begins with none.
func Number(b []byte) (uint64, int) {
	var n uint64
	for i, c := range b {
		if i == maxGroups-1 && c > 1 {
			return 0, 0
		}
		n |= uint64(c%128) << (7 * i)
		if c >= 128 {
			continue
		}
		// A last group of nought is one too many, but for the number 0 itself.
		if c == 0 && i > 0 {
			return 0, 0
		}
		return n, i + 1
	}
	return 0, 0
}

// Text is the text with which b begins, and how many bytes it has with its number; nothing and 0, if there is none of at most most bytes. The number is held against the bounds while it is unsigned, as it may be more than an int holds.
func Text(b []byte, most int) (string, int) {
	n, at := Number(b)
	if at == 0 || most < 0 || n > uint64(most) || n > uint64(len(b)-at) {
		return "", 0
	}
	end := at + int(n)
	return string(b[at:end]), end
}

// unreadable is what reading gives up by: the place of what can't be read.
type unreadable struct{ at int }

// Fault tells of what was recovered where reading gave up; any other panic goes on.
func Fault(p any) error {
	switch gave := p.(type) {
	case unreadable:
		return &api.Fault{At: gave.at, Err: api.ErrCode}
	default:
		panic(p)
	}
}

// GiveUp gives up at a place by a panic of which Fault tells.
func GiveUp(at int) {
	panic(unreadable{at: at})
}

// Reader reads bytes from a place on, which it does not leave unless what stands there could be read.
type Reader struct {
	b  []byte
	at int
}

// New is one at the beginning of b.
func New(b []byte) *Reader {
	return &Reader{b: b}
}

// Byte reads this one.
func (r *Reader) Byte(c byte) {
	if r.at == len(r.b) || r.b[r.at] != c {
		GiveUp(r.at)
	}
	r.at++
}

// Number reads one of at most most, which is not below 0.
func (r *Reader) Number(most int) int {
	n, size := Number(r.b[r.at:])
	if size == 0 || n > uint64(most) {
		GiveUp(r.at)
	}
	r.at += size
	return int(n)
}

// Text reads one of at most most bytes.
func (r *Reader) Text(most int) string {
	s, size := Text(r.b[r.at:], most)
	if size == 0 {
		GiveUp(r.at)
	}
	r.at += size
	return s
}

// End gives up at a byte that is left.
func (r *Reader) End() {
	if r.at < len(r.b) {
		GiveUp(r.at)
	}
}
