package stable

import (
	"testing"

	"scriptorium/api"
	"scriptorium/disk"
)

// full is behindThree, on a disk on which so many bytes have room beside it.
func full(t *testing.T, free int) (*disk.Disk, *Stable, api.Saved) {
	t.Helper()
	d, _, w := behindThree(t)
	small := disk.New(d.Used() + free)
	files := content(d)
	for i := 0; i < len(files); i += 2 {
		answers(t, "disk's Append", small.Append(files[i], []byte(files[i+1])), api.OK)
		answers(t, "disk's Sync", small.Sync(files[i]), api.OK)
	}
	s, _ := opened(t, small)
	return small, s, w
}

// What is written anew has its room beside the old one; where there is none, all stays as it was.
func TestFullAnew(t *testing.T) {
	x := snapshot(5, 2, "new state", 1, 2)
	for what, call := range map[string]func(s *Stable) api.Errno{"SaveHard": saysHard(9, 3), "SaveSnap": saysSnap(x)} {
		size := len(hardText(9, 3))
		if what == "SaveSnap" {
			size = len(snapText(x))
		}
		for free := range size {
			d, s, w := full(t, free)
			was := content(d)
			answers(t, what, call(s), api.ErrFull)
			answers(t, what, call(s), api.ErrFull)
			hasFiles(t, d, was...)
			// Nothing of it was a deed, nor is kept in mind.
			d.Arm(0, 0)
			answers(t, what, call(s), api.ErrFull)
			d.Arm(-1, 0)
			tells(t, d, w)
			answers(t, "Put", s.Put(entries(command(4, 2, ""))), api.OK)
		}
		d, s, w := full(t, size)
		answers(t, what, call(s), api.OK)
		if what == "SaveHard" {
			w.Term, w.Vote = 9, 3
		} else {
			w.Snap, w.Entries = x, w.Entries[2:]
		}
		tells(t, d, w)
	}
}

// Of entries that have no room those ahead are there, and of what they were put over nothing from the first one on.
func TestFullPut(t *testing.T) {
	l := commands(7, 3, "a", "bb", "ccc")
	for free := range len(framed(l...)) + 1 {
		n := 0
		for n < len(l) && len(framed(l[:n+1]...)) <= free {
			n++
		}
		want := api.OK
		if n < len(l) {
			want = api.ErrFull
		}
		d, s, w := full(t, free)
		answers(t, "Put", s.Put(l), want)
		w.Entries = append(w.Entries, l[:n]...)
		tells(t, d, w)

		// The same behind a cut, which makes room for one more.
		d, s, w = full(t, free)
		over := commands(6, 3, "6", "a", "bb", "ccc")
		answers(t, "Put over one", s.Put(over), want)
		w.Entries = append(w.Entries[:2], over[:n+1]...)
		tells(t, d, w)
	}
}

// What is taken away leaves room again: a snapshot of its segments, a Put of what it is put over.
func TestFullAndRoomAgain(t *testing.T) {
	l := commands(1, 1, filling, filling, filling, filling)
	x := snapshot(2, 1, "x", 1)
	d := disk.New(2*api.SegBytes + len(snapText(x)))
	s, _ := opened(t, d)
	put(t, s, l...)
	answers(t, "SaveSnap", s.SaveSnap(x), api.OK)
	put(t, s, commands(5, 1, filling, filling)...)
	answers(t, "Put", s.Put(entries(command(7, 1, ""))), api.ErrFull)
	answers(t, "SaveHard", s.SaveHard(1, 1), api.ErrFull)
	put(t, s, command(6, 1, "short"))
	answers(t, "SaveHard", s.SaveHard(1, 1), api.OK)
	tells(t, d, api.Saved{Term: 1, Vote: 1, Snap: x, Entries: append(l[2:], command(5, 1, filling), command(6, 1, "short"))})
}

// A disk that is full is opened all the same, also where the log is another's.
func TestFullOpen(t *testing.T) {
	d, _, w := full(t, 0)
	tells(t, d, w)
	x := snapshot(9, 9, "x", 1)
	small := disk.New(len(snapText(x)))
	answers(t, "disk's Append", small.Append("snap", []byte(snapText(x))), api.OK)
	answers(t, "disk's Sync", small.Sync("snap"), api.OK)
	tells(t, small, api.Saved{Snap: x})
	hasFiles(t, small, "log.000010", "", "snap", snapText(x))
}

// Without any room there is still what nothing takes.
func TestFullFromTheBeginning(t *testing.T) {
	d := disk.New(0)
	s, _ := opened(t, d)
	answers(t, "SaveHard", s.SaveHard(0, 0), api.ErrFull)
	answers(t, "Put", s.Put(entries(none(1, 1))), api.ErrFull)
	answers(t, "SaveSnap", s.SaveSnap(snapshot(1, 0, "", 1)), api.ErrFull)
	answers(t, "Put of none", s.Put(nil), api.OK)
	tells(t, d, api.Saved{})
}
