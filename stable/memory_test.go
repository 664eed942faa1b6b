package stable

import (
	"slices"
	"strings"
	"testing"

	"scriptorium/api"
	"scriptorium/disk"
)

// all is what a stable may have, with lists of each kind.
func all() api.Saved {
	return api.Saved{Term: 7, Vote: 3, Snap: snapshot(2, 5, "state", 1, 2, 4), Entries: entries(command(3, 5, "three"), grouping(4, 6, 1, 2), command(5, 6, ""), command(6, 7, "six"), none(7, 7), grouping(8, 7, 1, 2, 3), command(9, 7, strings.Repeat("nine", 500)))}
}

// saveAll saves that on a new disk.
func saveAll(t *testing.T, w api.Saved) (*disk.Disk, *Stable) {
	t.Helper()
	d := disk.New(manyBytes)
	s, _ := opened(t, d)
	answers(t, "SaveHard", s.SaveHard(w.Term, w.Vote), api.OK)
	answers(t, "SaveSnap", s.SaveSnap(w.Snap), api.OK)
	put(t, s, w.Entries...)
	return d, s
}

// writeOver writes over all lists that are there, and the room behind them.
func writeOver(w api.Saved) {
	over := func(b []byte, nodes []int) {
		for i := range b[:cap(b)] {
			b[:cap(b)][i] = '!'
		}
		for i := range nodes[:cap(nodes)] {
			nodes[:cap(nodes)][i] = -7
		}
	}
	over(w.Snap.Data, w.Snap.Nodes)
	for i, e := range w.Entries {
		over(e.Data, e.Nodes)
		w.Entries[i] = grouping(-7, -7, -7)
	}
	for i := range w.Entries[:cap(w.Entries)] {
		w.Entries[:cap(w.Entries)][i] = grouping(-7, -7, -7)
	}
}

// What is handed in is not changed, and not kept: who owns it may write over it.
func TestHandedIn(t *testing.T) {
	w := all()
	d, s := saveAll(t, w)
	if told(w) != told(all()) {
		t.Errorf("it is %s now", told(w))
	}
	was := content(d)
	writeOver(w)
	hasFiles(t, d, was...)
	tells(t, d, all())
	// Nor is it read later on.
	put(t, s, none(10, 7))
	answers(t, "SaveSnap", s.SaveSnap(snapshot(3, 5, "", 1)), api.OK)
	want := all()
	want.Snap = snapshot(3, 5, "", 1)
	want.Entries = append(want.Entries[1:], none(10, 7))
	tells(t, d, want)
}

// What stands behind what is handed in, in its memory, stays.
func TestHandedInRoomBehind(t *testing.T) {
	text, nodes := []byte("abcdefgh"), []int{1, 2, 3, 4, 5}
	l := entries(command(3, 1, ""), grouping(4, 1), none(5, 1))
	l[0].Data, l[1].Nodes = text[:3], nodes[:2]
	d := disk.New(manyBytes)
	s, _ := opened(t, d)
	answers(t, "SaveSnap", s.SaveSnap(api.Snap{Index: 2, Nodes: nodes[:3], Data: text[:2]}), api.OK)
	answers(t, "Put", s.Put(l[:2]), api.OK)
	if string(text) != "abcdefgh" || !slices.Equal(nodes, []int{1, 2, 3, 4, 5}) || told(api.Saved{Entries: l[2:]}) != told(api.Saved{Entries: entries(none(5, 1))}) {
		t.Errorf("they are %q, %d, %v", text, nodes, l)
	}
	tells(t, d, api.Saved{Snap: snapshot(2, 0, "ab", 1, 2, 3), Entries: entries(command(3, 1, "abc"), grouping(4, 1, 1, 2))})
}

// So it is with what is refused.
func TestHandedInRefused(t *testing.T) {
	w := all()
	_, s := saveAll(t, w)
	l := commands(20, 1, "a", "b")
	answers(t, "Put", s.Put(l), api.ErrIndex)
	answers(t, "Put", s.Put(append(l, none(1, 1))), api.ErrArg)
	x := snapshot(1, 1, "x", 2, 1)
	answers(t, "SaveSnap", s.SaveSnap(x), api.ErrArg)
	if told(api.Saved{Snap: x, Entries: l}) != told(api.Saved{Snap: snapshot(1, 1, "x", 2, 1), Entries: commands(20, 1, "a", "b")}) {
		t.Errorf("they are %v, %v", x, l)
	}
}

// What comes out is its owner's: written over, it changes neither the disk, nor the stable, nor what else came out.
func TestToldApart(t *testing.T) {
	d, _ := saveAll(t, all())
	was := content(d)
	s, w := opened(t, d)
	_, other := opened(t, d)
	writeOver(w)
	if told(other) != told(all()) {
		t.Errorf("the other one is %s", told(other))
	}
	hasFiles(t, d, was...)
	tells(t, d, all())
	put(t, s, none(10, 7))
	answers(t, "SaveSnap", s.SaveSnap(snapshot(2, 9, "", 1)), api.ErrIndex)
	want := all()
	want.Entries = append(want.Entries, none(10, 7))
	tells(t, d, want)
}

// No two lists of what is told share memory, nor the room behind them.
func TestToldListsApart(t *testing.T) {
	d, _ := saveAll(t, all())
	_, w := opened(t, d)
	texts, nodes := map[*byte]int{}, map[*int]int{}
	claim(t, texts, w.Snap.Data)
	claim(t, nodes, w.Snap.Nodes)
	for _, e := range w.Entries {
		claim(t, texts, e.Data)
		claim(t, nodes, e.Nodes)
	}
}

func claim[T any](t *testing.T, claimed map[*T]int, l []T) {
	t.Helper()
	l = l[:cap(l)]
	for i := range l {
		if claimed[&l[i]]++; claimed[&l[i]] > 1 {
			t.Fatal("two lists of what is told share memory")
		}
	}
}

// What was told stays, whatever becomes of the disk.
func TestToldStays(t *testing.T) {
	d, _ := saveAll(t, all())
	s, w := opened(t, d)
	answers(t, "SaveHard", s.SaveHard(1, 1), api.OK)
	put(t, s, commands(3, 1, "other", "others")...)
	answers(t, "SaveSnap", s.SaveSnap(snapshot(100, 100, "other", 5)), api.OK)
	restarted(d, 0)
	if told(w) != told(all()) {
		t.Errorf("it is %s now", told(w))
	}
}
