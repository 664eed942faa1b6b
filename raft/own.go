package raft

import (
	"bytes"
	"slices"

	"scriptorium/api"
)

// ownEntries and ownSnap share nothing with what they are of: what comes in and what goes out belongs to another.
func ownEntries(l []api.Entry) []api.Entry {
	own := slices.Clone(l)
	for i, e := range l {
		own[i].Data, own[i].Nodes = bytes.Clone(e.Data), slices.Clone(e.Nodes)
	}
	return own
}

func ownSnap(x api.Snap) api.Snap {
	x.Data, x.Nodes = bytes.Clone(x.Data), slices.Clone(x.Nodes)
	return x
}
