package raft

import (
	"slices"

	"scriptorium/api"
)

// row is a snapshot, the entries behind it, and the group that holds where neither names one. Nobody writes over the bytes and nodes in it.
type row struct {
	snap    api.Snap
	entries []api.Entry
	first   []int
}

func (r *row) last() int {
	return r.snap.Index + len(r.entries)
}

// behind are the entries behind an Index.
func (r *row) behind(index int) []api.Entry {
	ahead := max(0, index-r.snap.Index)
	return r.entries[min(ahead, len(r.entries)):]
}

// between are the entries behind an Index, up to another one.
func (r *row) between(index, upTo int) []api.Entry {
	l := r.behind(index)
	return l[:len(l)-len(r.behind(upTo))]
}

// termAt is 0 where there is neither an entry nor the snapshot.
func (r *row) termAt(index int) int {
	switch {
	case index == r.snap.Index:
		return r.snap.Term
	case index < r.snap.Index || index > r.last():
		return 0
	}
	return r.behind(index - 1)[0].Term
}

func (r *row) group() []int {
	return r.groupAt(r.last())
}

// groupAt is the group by the entries up to an Index.
func (r *row) groupAt(index int) []int {
	upTo := len(r.entries) - len(r.behind(index))
	for _, e := range slices.Backward(r.entries[:upTo]) {
		if e.Kind == api.KindNodes {
			return e.Nodes
		}
	}
	if len(r.snap.Nodes) > 0 {
		return r.snap.Nodes
	}
	return r.first
}

// changesBehind tells whether an entry behind an Index names a group.
func (r *row) changesBehind(index int) bool {
	return slices.ContainsFunc(r.behind(index), func(e api.Entry) bool { return e.Kind == api.KindNodes })
}

// others are those of some entries from the first one on that is not here.
func (r *row) others(l []api.Entry) []api.Entry {
	for i, e := range l {
		if r.termAt(e.Index) != e.Term {
			return l[i:]
		}
	}
	return nil
}

// put lays entries, one at least, at their Index, in the place of all that is there and behind that.
func (r *row) put(l []api.Entry) {
	keep := len(r.entries) - len(r.behind(l[0].Index-1))
	r.entries = append(slices.Delete(r.entries, keep, len(r.entries)), ownEntries(l)...)
}

// begin lets the row begin with a snapshot, and some of its entries.
func (r *row) begin(x api.Snap, entries []api.Entry) {
	r.snap, r.entries = x, slices.Clone(entries)
}
