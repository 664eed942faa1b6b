package stable

import (
	"math"
	"slices"
	"strings"
	"testing"

	"scriptorium/api"
	"scriptorium/disk"
)

// put puts entries, which must be well.
func put(t *testing.T, s *Stable, l ...api.Entry) {
	t.Helper()
	answers(t, "Put", s.Put(l), api.OK)
}

// behindThree is a stable with a snapshot of the Index 3, and the entries 4 to 6, in a log that begins with 1.
func behindThree(t *testing.T) (*disk.Disk, *Stable, api.Saved) {
	t.Helper()
	l := commands(1, 2, "1", "2", "3", "4", "5", "6")
	w := api.Saved{Term: 2, Vote: 1, Snap: snapshot(3, 2, "state", 1), Entries: l[3:]}
	d := disk.New(manyBytes)
	s, _ := opened(t, d)
	answers(t, "SaveHard", s.SaveHard(w.Term, w.Vote), api.OK)
	put(t, s, l...)
	answers(t, "SaveSnap", s.SaveSnap(w.Snap), api.OK)
	tells(t, d, w)
	return d, s, w
}

func TestPut(t *testing.T) {
	l := entries(none(1, 1), command(2, 1, ""), grouping(3, 1, 2, 3), command(4, 7, "x"), none(5, 7))
	for size := 1; size <= len(l); size++ {
		d := disk.New(manyBytes)
		s, _ := opened(t, d)
		for part := range slices.Chunk(l, size) {
			put(t, s, part...)
			tells(t, d, api.Saved{Entries: l[:part[len(part)-1].Index]})
		}
		hasFiles(t, d, "log.000001", framed(l...))
	}
}

// Of none nothing is done, be there power or not.
func TestPutNone(t *testing.T) {
	d, s, w := behindThree(t)
	was := content(d)
	d.Arm(0, 0)
	answers(t, "Put of nil", s.Put(nil), api.OK)
	answers(t, "Put of none", s.Put([]api.Entry{}), api.OK)
	hasFiles(t, d, was...)
	d.Crash(0)
	answers(t, "Put of none, without power", s.Put(nil), api.OK)
	answers(t, "Put of one, without power", s.Put(entries(none(7, 1))), api.ErrOff)
	d.Start()
	tells(t, d, w)
}

// wrongEntries are such as may not be, at an Index at which one could be put.
func wrongEntries(index int) []api.Entry {
	var all []api.Entry
	for _, term := range []int{0, -1, 1000000, 1000001, 1 << 40, math.MinInt, math.MaxInt} {
		all = append(all, none(index, term), command(index, term, "x"), grouping(index, term, 1))
	}
	for _, kind := range []int{-1, 3, 4, 128, 258, 1 << 32, math.MinInt, math.MaxInt} {
		all = append(all, api.Entry{Index: index, Term: 1, Kind: kind}, api.Entry{Index: index, Term: 1, Kind: kind, Nodes: []int{1}})
	}
	for _, nodes := range [][]int{nil, {}, {0}, {6}, {-1}, {math.MinInt}, {math.MaxInt}, {1, 1}, {2, 1}, {1, 3, 2}, {0, 1}, {4, 5, 6}, {1, 2, 3, 4, 5, 6}, {1, 2, 3, 4, 5, 5}, {1, 2, 3, 4, 4, 5}} {
		all = append(all, grouping(index, 1, nodes...))
	}
	both := grouping(index, 1, 1)
	both.Data = []byte("x")
	return append(all, both,
		api.Entry{Index: index, Term: 1, Data: []byte("x")},
		api.Entry{Index: index, Term: 1, Nodes: []int{1}},
		api.Entry{Index: index, Term: 1, Kind: 1, Nodes: []int{1}},
		api.Entry{Index: index, Term: 1, Kind: 1, Nodes: []int{1}, Data: []byte("x")},
		command(index, 1, strings.Repeat("d", 8001)), command(index, 1, strings.Repeat("d", 8192)), command(index, 1, strings.Repeat("d", 100000)),
	)
}

// Each field beyond its bounds, at each place of a list; it is told ahead of an Index that is wrong, and nothing is done.
func TestPutWrong(t *testing.T) {
	d, s, w := behindThree(t)
	was := content(d)
	d.Arm(0, 0)
	for _, first := range []int{-1, 0, 3, 4, 6, 7, 8, 1000000} {
		for at := range 3 {
			for _, bad := range wrongEntries(first + at) {
				l := commands(first, 1, "a", "b", "c")
				l[at] = bad
				answers(t, "Put", s.Put(l), api.ErrArg)
				answers(t, "Put", s.Put(l[at:at+1]), api.ErrArg)
				if t.Failed() {
					t.Fatalf("%.100v", l)
				}
			}
		}
	}
	hasFiles(t, d, was...)
	d.Arm(-1, 0)
	tells(t, d, w)
}

// Lists whose entries do not go on one from the other.
func TestPutGaps(t *testing.T) {
	d, s, w := behindThree(t)
	was := content(d)
	d.Arm(0, 0)
	for _, indices := range [][]int{
		{7, 7}, {7, 9}, {7, 6}, {7, 8, 8}, {7, 8, 10}, {7, 8, 7}, {7, 9, 8}, {4, 6}, {4, 4}, {6, 5, 4}, {7, 0}, {7, -8}, {7, 1000000},
		{3, 3}, {8, 10}, {0, 0}, {-1, 1}, {math.MaxInt, math.MinInt}, {math.MinInt, math.MaxInt}, {math.MaxInt, math.MaxInt}, {math.MinInt, math.MinInt}, {7, 8 + 1<<32},
	} {
		var l []api.Entry
		for _, index := range indices {
			l = append(l, none(index, 1))
		}
		answers(t, "Put", s.Put(l), api.ErrArg)
		if t.Failed() {
			t.Fatal(indices)
		}
	}
	hasFiles(t, d, was...)
	d.Arm(-1, 0)
	tells(t, d, w)
}

// Where a first one may stand: above the snapshot's Index, and at most one above Last.
func TestPutIndex(t *testing.T) {
	for size := 1; size <= 6; size++ {
		texts := strings.Split("abcdef"[:size], "")
		for _, first := range []int{math.MinInt, -5, -1, 0, 1, 2, 3, 8, 9, 1000, 999999, 1000000, 1 << 40, math.MaxInt - 7} {
			d, s, w := behindThree(t)
			was := content(d)
			d.Arm(0, 0)
			answers(t, "Put", s.Put(commands(first, 3, texts...)), api.ErrIndex)
			hasFiles(t, d, was...)
			d.Arm(-1, 0)
			tells(t, d, w)
		}
		for first := 4; first <= 7; first++ {
			d, s, w := behindThree(t)
			ones := framed(append(commands(1, 2, "1", "2", "3"), append(slices.Clone(w.Entries[:first-4]), commands(first, 3, texts...)...)...)...)
			w.Entries = append(w.Entries[:first-4:first-4], commands(first, 3, texts...)...)
			put(t, s, w.Entries[first-4:]...)
			if b, _ := d.Read("log.000001"); string(b) != ones {
				t.Errorf("the log has %q, not %q", b, ones)
			}
			tells(t, d, w)
			// The same stable knows where it stands now.
			last := first + size - 1
			answers(t, "Put too far", s.Put(entries(none(last+2, 4))), api.ErrIndex)
			put(t, s, none(last+1, 4))
			w.Entries = append(w.Entries, none(last+1, 4))
			tells(t, d, w)
		}
	}
}

// Without a snapshot the first Index is 1.
func TestPutIndexNew(t *testing.T) {
	d := disk.New(manyBytes)
	s, _ := opened(t, d)
	for _, first := range []int{-1, 0, 2, 3, 999999} {
		answers(t, "Put", s.Put(commands(first, 1, "a", "b")), api.ErrIndex)
	}
	hasFiles(t, d, "log.000001", "")
	put(t, s, command(1, 1, "a"))
	answers(t, "Put", s.Put(commands(0, 1, "a", "b")), api.ErrIndex)
	answers(t, "Put", s.Put(commands(3, 1, "a", "b")), api.ErrIndex)
	put(t, s, commands(2, 1, "b", "c")...)
	tells(t, d, api.Saved{Entries: commands(1, 1, "a", "b", "c")})
}

// Entries that are there already are put over all the same; the terms may fall.
func TestPutOver(t *testing.T) {
	d := disk.New(manyBytes)
	s, _ := opened(t, d)
	all := commands(1, 5, "a", "b", "c", "d")
	put(t, s, all...)
	put(t, s, all...)
	tells(t, d, api.Saved{Entries: all})
	put(t, s, all[1:3]...)
	tells(t, d, api.Saved{Entries: all[:3]})
	put(t, s, command(3, 1, "C"))
	tells(t, d, api.Saved{Entries: append(slices.Clone(all[:2]), command(3, 1, "C"))})
	put(t, s, none(1, 1))
	tells(t, d, api.Saved{Entries: entries(none(1, 1))})
	hasFiles(t, d, "log.000001", framed(none(1, 1)))
}

// filling is a text with which an entry's frame has half of a segment's bytes.
var filling = strings.Repeat("f", api.SegBytes/2-10)

// Where the log has several segments, those behind are removed, and the one that is left is cut.
func TestPutOverSegments(t *testing.T) {
	var texts []string
	for range 7 {
		texts = append(texts, filling)
	}
	for first := 1; first <= 8; first++ {
		d := disk.New(manyBytes)
		s, _ := opened(t, d)
		all := commands(1, 5, texts...)
		put(t, s, all...)
		if len(d.Files()) != 4 {
			t.Fatalf("%q", d.Files())
		}
		all = append(all[:first-1], commands(first, 6, "x", filling, "y", filling, "z")...)
		put(t, s, all[first-1:]...)
		tells(t, d, api.Saved{Entries: all})
	}
}

// Data of every size, up to the most.
func TestPutData(t *testing.T) {
	d := disk.New(manyBytes)
	s, _ := opened(t, d)
	var all []api.Entry
	for i, size := range []int{0, 1, 2, 127, 128, 2038, 2039, 2040, 7999, 8000} {
		all = append(all, command(i+1, 999999-i, strings.Repeat(string(rune('a'+i)), size)))
	}
	put(t, s, all...)
	tells(t, d, api.Saved{Entries: all})
}

// The last entry has the Index 999999; the log has no number for one more, and says so when it is reached.
func TestPutMany(t *testing.T) {
	x := snapshot(999997, 1, "", 1)
	d := disk.New(manyBytes)
	s, _ := opened(t, d)
	answers(t, "SaveSnap", s.SaveSnap(x), api.OK)
	put(t, s, commands(999998, 1, "a", "b")...)
	answers(t, "Put", s.Put(entries(none(1000000, 1))), api.ErrMany)
	answers(t, "Put", s.Put(entries(none(1000001, 1))), api.ErrIndex)
	tells(t, d, api.Saved{Snap: x, Entries: commands(999998, 1, "a", "b")})
	s, _ = opened(t, d)
	answers(t, "Put", s.Put(commands(999999, 2, "B", "c")), api.ErrMany)
	_, w := opened(t, d)
	if told(w) != told(api.Saved{Snap: x, Entries: entries(command(999998, 1, "a"), command(999999, 2, "B"))}) {
		t.Errorf("Open tells %s", told(w))
	}
}
