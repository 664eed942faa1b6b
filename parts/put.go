package parts

import (
	"scriptorium/api"
	"scriptorium/snap"
)

// PutNumbers is b, and behind it numbers, which are not below 0.
func PutNumbers(b []byte, numbers ...int) []byte {
	for _, n := range numbers {
		b = snap.PutNumber(b, uint64(n))
	}
	return b
}

// PutGroup is b, and behind it how many nodes there are, and each of them.
func PutGroup(b []byte, nodes []int) []byte {
	return PutNumbers(PutNumbers(b, len(nodes)), nodes...)
}

// PutSnap is b, and behind it a snapshot.
func PutSnap(b []byte, x api.Snap) []byte {
	b = PutGroup(PutNumbers(b, x.Index, x.Term), x.Nodes)
	return snap.PutText(b, string(x.Data))
}
