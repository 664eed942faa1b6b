package stable

import (
	"math"
	"slices"
	"strings"
	"testing"

	"scriptorium/api"
	"scriptorium/disk"
)

// wrongSnaps are such as may not be saved, whatever is there.
func wrongSnaps() []api.Snap {
	all := []api.Snap{{}, snapshot(0, 1, "", 1), snapshot(0, 0, "x", 1), {Nodes: []int{1}}, {Term: 1}, {Data: []byte("x")}}
	for _, index := range []int{0, -1, 999999, 1000000, 1 << 40, math.MinInt, math.MaxInt} {
		all = append(all, snapshot(index, 1, "x", 1), snapshot(index, 0, "", 1))
	}
	for _, term := range []int{-1, 1000000, 1 << 40, math.MinInt, math.MaxInt} {
		all = append(all, snapshot(5, term, "x", 1))
	}
	for _, nodes := range [][]int{nil, {}, {0}, {6}, {-1}, {math.MinInt}, {math.MaxInt}, {1, 1}, {2, 1}, {1, 3, 2}, {0, 1}, {4, 5, 6}, {1, 2, 3, 4, 5, 6}, {1, 2, 3, 4, 5, 5}} {
		all = append(all, snapshot(5, 1, "x", nodes...))
	}
	return append(all, snapshot(5, 1, strings.Repeat("d", 300001), 1), snapshot(5, 1, strings.Repeat("d", 1000000), 1))
}

// Nothing is done; that it may not be is told ahead of its Index.
func TestSaveSnapWrong(t *testing.T) {
	d, s, w := behindThree(t)
	was := content(d)
	d.Arm(0, 0)
	for _, x := range wrongSnaps() {
		answers(t, "SaveSnap", s.SaveSnap(x), api.ErrArg)
		if x.Index == 5 {
			for _, index := range []int{1, 3} {
				x.Index = index
				answers(t, "SaveSnap", s.SaveSnap(x), api.ErrArg)
			}
		}
		if t.Failed() {
			t.Fatalf("%.100v", x)
		}
	}
	hasFiles(t, d, was...)
	d.Arm(-1, 0)
	tells(t, d, w)
	d.Crash(0)
	answers(t, "SaveSnap of a wrong one, without power", s.SaveSnap(api.Snap{}), api.ErrArg)
	answers(t, "SaveSnap of an old one, without power", s.SaveSnap(w.Snap), api.ErrIndex)
	answers(t, "SaveSnap without power", s.SaveSnap(snapshot(4, 2, "", 1)), api.ErrOff)
}

func TestSaveSnapOld(t *testing.T) {
	d, s, w := behindThree(t)
	was := content(d)
	d.Arm(0, 0)
	for _, index := range []int{1, 2, 3} {
		for _, term := range []int{0, 1, 2, 3, 999999} {
			answers(t, "SaveSnap", s.SaveSnap(snapshot(index, term, "other", 1, 2)), api.ErrIndex)
		}
	}
	hasFiles(t, d, was...)
	d.Arm(-1, 0)
	tells(t, d, w)
	again, _ := opened(t, d)
	answers(t, "SaveSnap", again.SaveSnap(w.Snap), api.ErrIndex)
}

// One within the log, at its Last, above it; of a term that makes the log another's, and of one that does not.
func TestSaveSnap(t *testing.T) {
	for _, c := range []struct {
		x       api.Snap
		another bool
	}{
		{snapshot(4, 2, "x", 1), false}, {snapshot(4, 0, "", 1), false}, {snapshot(4, 1, "x", 1, 2, 3, 4, 5), false},
		{snapshot(4, 3, "x", 1), true}, {snapshot(4, 999999, "x", 1), true},
		{snapshot(5, 2, "x", 1), false}, {snapshot(5, 3, "x", 1), true},
		{snapshot(6, 2, "x", 1), false}, {snapshot(6, 3, "x", 1), false}, {snapshot(6, 999999, "x", 1), false},
		{snapshot(7, 2, "x", 1), true}, {snapshot(7, 0, "x", 1), true}, {snapshot(8, 2, "x", 1), true}, {snapshot(999998, 1, "x", 5), true},
	} {
		d, s, w := behindThree(t)
		log, _ := d.Read("log.000001")
		answers(t, "SaveSnap", s.SaveSnap(c.x), api.OK)
		w.Snap = c.x
		if c.another {
			w.Entries = nil
			hasFiles(t, d, "hard", hardText(2, 1), segment(c.x.Index+1), "", "snap", snapText(c.x))
		} else {
			w.Entries = w.Entries[c.x.Index-3:]
			hasFiles(t, d, "hard", hardText(2, 1), "log.000001", string(log), "snap", snapText(c.x))
		}
		tells(t, d, w)
		answers(t, "SaveSnap once more", s.SaveSnap(c.x), api.ErrIndex)
		answers(t, "Put at it", s.Put(entries(none(c.x.Index, 999999))), api.ErrIndex)
		put(t, s, none(c.x.Index+1, 999999))
		w.Entries = entries(none(c.x.Index+1, 999999))
		tells(t, d, w)
		if t.Failed() {
			t.Fatalf("%v", c.x)
		}
	}
}

// The bounds of each field.
func TestSaveSnapBounds(t *testing.T) {
	for _, x := range []api.Snap{
		snapshot(1, 0, "", 1), snapshot(1, 999999, "", 5), snapshot(999998, 0, "", 1, 2, 3, 4, 5), snapshot(999998, 999999, "x", 1, 5),
		snapshot(127, 128, strings.Repeat("d", 299999), 2), snapshot(128, 127, strings.Repeat("d", 300000), 2, 3, 4),
	} {
		d := disk.New(manyBytes)
		s, _ := opened(t, d)
		answers(t, "SaveSnap", s.SaveSnap(x), api.OK)
		hasFiles(t, d, segment(x.Index+1), "", "snap", snapText(x))
		tells(t, d, api.Saved{Snap: x})
	}
}

// One behind another, each written over the one ahead, till there is none any more.
func TestSaveSnaps(t *testing.T) {
	d := disk.New(manyBytes)
	s, _ := opened(t, d)
	w := api.Saved{}
	for _, index := range []int{1, 2, 3, 50, 51, 999997, 999998} {
		w.Snap = snapshot(index, index%7, strings.Repeat("d", 60-index%60), 1, 2+index%4)
		answers(t, "SaveSnap", s.SaveSnap(w.Snap), api.OK)
		tells(t, d, w)
	}
	answers(t, "SaveSnap", s.SaveSnap(snapshot(999999, 1, "", 1)), api.ErrArg)
	put(t, s, none(999999, 9))
	tells(t, d, api.Saved{Snap: w.Snap, Entries: entries(none(999999, 9))})
}

// Segments that end up to the Index are dropped, those with entries above it stay, and always the last one.
func TestSaveSnapDrops(t *testing.T) {
	var texts []string
	for range 7 {
		texts = append(texts, filling)
	}
	all := commands(1, 5, texts...)
	for index, left := range map[int][]string{
		1: {"log.000001", "log.000003", "log.000005", "log.000007"},
		2: {"log.000003", "log.000005", "log.000007"},
		3: {"log.000003", "log.000005", "log.000007"},
		4: {"log.000005", "log.000007"},
		6: {"log.000007"},
		7: {"log.000007"},
		8: {"log.000009"},
	} {
		d := disk.New(manyBytes)
		s, _ := opened(t, d)
		put(t, s, all...)
		x := snapshot(index, 5, "x", 1)
		answers(t, "SaveSnap", s.SaveSnap(x), api.OK)
		if got := d.Files(); !slices.Equal(got, append(left, "snap")) {
			t.Errorf("%d: %q", index, got)
		}
		tells(t, d, api.Saved{Snap: x, Entries: all[min(index, 7):]})
	}
}
