package stable

import (
	"slices"
	"testing"

	"scriptorium/api"
	"scriptorium/disk"
)

// A deed is done on a disk.
type deed func(d *disk.Disk) api.Errno

func appends(name, text string) deed {
	return func(d *disk.Disk) api.Errno { return d.Append(name, []byte(text)) }
}

func syncs(name string) deed {
	return func(d *disk.Disk) api.Errno { return d.Sync(name) }
}

func cuts(name string, n int) deed {
	return func(d *disk.Disk) api.Errno { return d.Cut(name, n) }
}

func renames(from, to string) deed {
	return func(d *disk.Disk) api.Errno { return d.Rename(from, to) }
}

func removes(name string) deed {
	return func(d *disk.Disk) api.Errno { return d.Remove(name) }
}

// anew are the deeds by which a file is written anew.
func anew(name, text string) []deed {
	return []deed{appends(name+".new", text), syncs(name + ".new"), renames(name+".new", name)}
}

// allDone does deeds till one answers an error.
func allDone(d *disk.Disk, deeds []deed) api.Errno {
	for _, do := range deeds {
		if err := do(d); err != api.OK {
			return err
		}
	}
	return api.OK
}

// keeps are how much of what is loose stays in the falls that are tried.
var keeps = []uint64{0, 1, 2, 5, 13, 22, 40, 1024, 1 << 40}

// fall is a call at which power may fail: how its disk is made ready, the call, its deeds, and what is told of the disk ahead of it, behind it, and perhaps where power failed.
type fall struct {
	what          string
	ready         func(s *Stable)
	call          func(s *Stable) api.Errno
	deeds         []deed
	ahead, behind api.Saved
	between       []api.Saved
}

// fallen is a disk at whose call power failed behind so many deeds, up again, and what the call answered.
func (f *fall) fallen(after int, keep uint64) (*disk.Disk, api.Errno) {
	d := disk.New(manyBytes)
	s, _, _ := Open(d)
	f.ready(s)
	d.Arm(after, keep)
	err := f.call(s)
	d.Start()
	return d, err
}

// bare is a disk with which the same became, but that the deeds were done by themselves.
func (f *fall) bare(after int, keep uint64) (*disk.Disk, api.Errno) {
	d := disk.New(manyBytes)
	s, _, _ := Open(d)
	f.ready(s)
	d.Arm(after, keep)
	err := allDone(d, f.deeds)
	if d.Up() != (after >= len(f.deeds)) {
		err = api.ErrLine
	}
	d.Start()
	return d, err
}

// check: the call does these deeds alone, in this order, and what is told behind a fall is as ahead of it or behind it, or something between.
func (f *fall) check(t *testing.T) {
	t.Helper()
	for after := range len(f.deeds) + 2 {
		for _, keep := range keeps {
			d, got := f.fallen(after, keep)
			bare, want := f.bare(after, keep)
			answers(t, f.what, got, want)
			hasFiles(t, d, content(bare)...)
			hasFiles(t, restarted(d, keep), content(restarted(bare, keep))...)
			f.told(t, d, got)
			f.checkOpen(t, after, keep)
			if t.Failed() {
				t.Fatalf("%s: power failed behind %d deeds, with %d kept", f.what, after, keep)
			}
		}
	}
}

// checkOpen lets power fail once more, while the disk is opened, at each deed of that.
func (f *fall) checkOpen(t *testing.T, after int, keep uint64) {
	t.Helper()
	for again := 0; ; again++ {
		d, got := f.fallen(after, keep)
		d.Arm(again, keep)
		s, w, err := Open(d)
		if err == api.OK {
			return
		}
		if s != nil || err != api.ErrOff || told(w) != told(api.Saved{}) {
			t.Errorf("Open at which power fails: %v %s %d", s, told(w), err)
		}
		d.Start()
		f.told(t, d, got)
	}
}

// told looks at what is told of a disk behind a fall.
func (f *fall) told(t *testing.T, d *disk.Disk, answered api.Errno) {
	t.Helper()
	_, w := opened(t, d)
	may := []string{told(f.behind)}
	if answered == api.ErrOff {
		may = append(may, told(f.ahead))
		for _, w := range f.between {
			may = append(may, told(w))
		}
	}
	if !slices.Contains(may, told(w)) {
		t.Errorf("%s: %.400s is told", f.what, told(w))
	}
}

func saysHard(term, vote int) func(s *Stable) api.Errno {
	return func(s *Stable) api.Errno { return s.SaveHard(term, vote) }
}

func puts(l ...api.Entry) func(s *Stable) api.Errno {
	return func(s *Stable) api.Errno { return s.Put(l) }
}

func saysSnap(x api.Snap) func(s *Stable) api.Errno {
	return func(s *Stable) api.Errno { return s.SaveSnap(x) }
}

// readied makes ready by calls.
func readied(calls ...func(s *Stable) api.Errno) func(s *Stable) {
	return func(s *Stable) {
		for _, call := range calls {
			call(s)
		}
	}
}

// refuses is a call that is to answer an error, and OK if it does.
func refuses(want api.Errno, call func(s *Stable) api.Errno) func(s *Stable) api.Errno {
	return func(s *Stable) api.Errno {
		if err := call(s); err != want {
			return err
		}
		return api.OK
	}
}

func TestSaveHardDeeds(t *testing.T) {
	for _, f := range []fall{
		{what: "the first one", ready: readied(), call: saysHard(3, 2), deeds: anew("hard", hardText(3, 2)), behind: api.Saved{Term: 3, Vote: 2}},
		{what: "one more", ready: readied(saysHard(128, 1)), call: saysHard(129, 0), deeds: anew("hard", hardText(129, 0)),
			ahead: api.Saved{Term: 128, Vote: 1}, behind: api.Saved{Term: 129}},
		{what: "the same", ready: readied(saysHard(1, 1)), call: saysHard(1, 1), deeds: anew("hard", hardText(1, 1)),
			ahead: api.Saved{Term: 1, Vote: 1}, behind: api.Saved{Term: 1, Vote: 1}},
		{what: "a wrong one", ready: readied(saysHard(1, 1)), call: refuses(api.ErrArg, saysHard(1, 6)), ahead: api.Saved{Term: 1, Vote: 1}, behind: api.Saved{Term: 1, Vote: 1}},
	} {
		f.check(t)
	}
}

// beginnings are what is told with each beginning of these entries, from so many on.
func beginnings(w api.Saved, least int, l []api.Entry) []api.Saved {
	var all []api.Saved
	for n := least; n <= len(l); n++ {
		w.Entries = l[:n]
		all = append(all, w)
	}
	return all
}

// putting is a fall at a Put of entries at an Index up to Last and 1, of what was there; the deeds ahead of the appends are named.
func putting(what string, old, l []api.Entry, deeds ...deed) fall {
	at := l[0].Index - 1
	all := append(slices.Clone(old[:at]), l...)
	f := fall{what: what, ready: readied(puts(old...)), call: puts(l...), deeds: deeds, ahead: api.Saved{Entries: old}, behind: api.Saved{Entries: all}}
	f.between = append(beginnings(api.Saved{}, at, old), beginnings(api.Saved{}, at, all)...)
	return f
}

func TestPutDeeds(t *testing.T) {
	ab, c := commands(1, 1, "a", "b"), command(3, 2, "c")
	cd := entries(c, grouping(4, 2, 1))
	log := "log.000001"
	for _, f := range []fall{
		putting("the first one", nil, ab[:1], appends(log, framed(ab[0])), syncs(log)),
		putting("two", nil, ab, appends(log, framed(ab[0])), appends(log, framed(ab[1])), syncs(log)),
		putting("at Last and 1", ab, cd, appends(log, framed(cd[0])), appends(log, framed(cd[1])), syncs(log)),
		putting("at Last", ab, entries(none(2, 2), c), cuts(log, len(framed(ab[0]))), appends(log, framed(none(2, 2))), appends(log, framed(c)), syncs(log)),
		putting("at the beginning", ab, entries(none(1, 2)), cuts(log, 0), appends(log, framed(none(1, 2))), syncs(log)),
	} {
		f.check(t)
	}
	for _, call := range []func(s *Stable) api.Errno{
		puts(), refuses(api.ErrArg, puts(none(3, 0))), refuses(api.ErrArg, puts(c, c)), refuses(api.ErrIndex, puts(none(4, 1))), refuses(api.ErrIndex, puts(none(0, 1))),
	} {
		f := fall{what: "nothing", ready: readied(puts(ab...)), call: call, ahead: api.Saved{Entries: ab}, behind: api.Saved{Entries: ab}}
		f.check(t)
	}
}

// Of a log of several segments: one that is full is synced ahead of the next one, and removed where it is above the first Index.
func TestPutDeedsOfSegments(t *testing.T) {
	six := commands(1, 1, filling, filling, filling, filling, filling, filling)
	half := len(framed(six[0]))
	x, y, z := command(3, 2, filling), command(4, 2, filling), none(5, 2)
	for _, f := range []fall{
		putting("on", six[:2], entries(x, y, z), syncs("log.000001"), appends("log.000003", framed(x)), appends("log.000003", framed(y)),
			syncs("log.000003"), appends("log.000005", framed(z)), syncs("log.000005")),
		putting("over", six, entries(y), removes("log.000005"), cuts("log.000003", half), appends("log.000003", framed(y)), syncs("log.000003")),
		putting("over segments", six, entries(x, y), removes("log.000005"), removes("log.000003"), syncs("log.000001"),
			appends("log.000003", framed(x)), appends("log.000003", framed(y)), syncs("log.000003")),
		putting("over all", six, entries(none(1, 9)), removes("log.000005"), removes("log.000003"), cuts("log.000001", 0),
			appends("log.000001", framed(none(1, 9))), syncs("log.000001")),
	} {
		f.check(t)
	}
}

// A last segment that a fall left empty is gone on with where it is: nothing is cut at Last and 1.
func TestPutDeedsAtAnEmptySegment(t *testing.T) {
	two := commands(1, 1, filling, filling)
	x, y := none(2, 3), none(3, 3)
	empties := func(s *Stable) {
		s.Put(append(slices.Clone(two), y))
		s.disk.Cut("log.000003", 0)
		again, _, _ := Open(s.disk)
		*s = *again
	}
	behind := putting("behind", two, entries(y), appends("log.000003", framed(y)), syncs("log.000003"))
	over := putting("over", two, entries(x), removes("log.000003"), cuts("log.000001", len(framed(two[0]))), appends("log.000001", framed(x)), syncs("log.000001"))
	for _, f := range []fall{behind, over} {
		f.ready = empties
		f.check(t)
	}
}

// snapping is a fall at a SaveSnap behind entries from 1 on; the deeds behind the file's are named.
func snapping(what string, old []api.Entry, x api.Snap, left []api.Entry, deeds ...deed) fall {
	f := fall{what: what, ready: readied(saysHard(1, 1), puts(old...)), call: saysSnap(x), deeds: append(anew("snap", snapText(x)), deeds...)}
	f.ahead = api.Saved{Term: 1, Vote: 1, Entries: old}
	f.behind = api.Saved{Term: 1, Vote: 1, Snap: x, Entries: left}
	return f
}

func TestSaveSnapDeeds(t *testing.T) {
	six := commands(1, 2, filling, filling, filling, filling, filling, filling)
	begins := func(index int) []deed {
		return []deed{removes("log.000005"), removes("log.000003"), removes("log.000001"), appends(segment(index+1), "")}
	}
	x := func(index, term int) api.Snap { return snapshot(index, term, "state", 1, 2) }
	for _, f := range []fall{
		snapping("of nothing", nil, x(1, 0), nil, removes("log.000001"), appends("log.000002", "")),
		snapping("within, nothing to drop", six, x(1, 2), six[1:]),
		snapping("within, one to drop", six, x(2, 2), six[2:], removes("log.000001")),
		snapping("within, two to drop", six, x(5, 2), six[5:], removes("log.000001"), removes("log.000003")),
		snapping("at Last", six, x(6, 9), nil, removes("log.000001"), removes("log.000003")),
		snapping("above", six, x(7, 2), nil, begins(7)...),
		snapping("far above", six, x(999998, 2), nil, begins(999998)...),
		snapping("within, another's", six, x(3, 3), nil, begins(3)...),
		snapping("at the beginning, another's", six, x(1, 3), nil, begins(1)...),
	} {
		f.check(t)
	}
	for _, call := range []func(s *Stable) api.Errno{refuses(api.ErrArg, saysSnap(x(0, 1))), refuses(api.ErrArg, saysSnap(api.Snap{})), refuses(api.ErrIndex, saysSnap(x(2, 9)))} {
		f := fall{what: "nothing", ready: readied(puts(six...), saysSnap(x(2, 2))), call: call}
		f.ahead = api.Saved{Snap: x(2, 2), Entries: six[2:]}
		f.behind = f.ahead
		f.check(t)
	}
}

// One snapshot behind another: the old one is told, or the new one.
func TestSaveSnapDeedsAgain(t *testing.T) {
	x, y := snapshot(1, 1, "old", 1), snapshot(2, 2, "new", 2)
	l := commands(1, 2, "a", "b", "c")
	f := fall{what: "again", ready: readied(puts(l...), saysSnap(x)), call: saysSnap(y), deeds: anew("snap", snapText(y)),
		ahead: api.Saved{Snap: x, Entries: l[1:]}, behind: api.Saved{Snap: y, Entries: l[2:]}}
	f.check(t)
}

// opening is a fall at which a disk is opened on which these files lie.
func opening(t *testing.T, what string, want api.Saved, files []string, deeds ...deed) {
	t.Helper()
	for after := range len(deeds) + 2 {
		for _, keep := range keeps {
			d, bare := laid(t, files...), laid(t, files...)
			d.Arm(after, keep)
			bare.Arm(after, keep)
			s, w, err := Open(d)
			answers(t, what, err, allDone(bare, deeds))
			if (s == nil) != (after < len(deeds)) || s == nil && told(w) != told(api.Saved{}) || s != nil && told(w) != told(want) {
				t.Errorf("%s: %v, %.300s", what, s, told(w))
			}
			d.Start()
			bare.Start()
			hasFiles(t, d, content(bare)...)
			hasFiles(t, restarted(d, keep), content(restarted(bare, keep))...)
			tells(t, d, want)
			if t.Failed() {
				t.Fatalf("%s: power failed behind %d deeds, with %d kept", what, after, keep)
			}
		}
	}
}

func TestOpenDeeds(t *testing.T) {
	x := snapshot(1, 1, "x", 1)
	log := framed(three...)
	all := []string{"hard", hardText(1, 2), "hard.new", "torn", "log.000001", log + "torn", "snap", snapText(x), "snap.new", "torn"}
	want := api.Saved{Term: 1, Vote: 2, Snap: x, Entries: three[1:]}
	opening(t, "of nothing", api.Saved{}, nil, appends("log.000001", ""))
	opening(t, "of all", want, all, removes("hard.new"), removes("snap.new"), cuts("log.000001", len(log)), syncs("log.000001"))
	opening(t, "of hard.new", api.Saved{}, []string{"hard.new", ""}, removes("hard.new"), appends("log.000001", ""))
	opening(t, "of snap.new", api.Saved{}, []string{"snap.new", ""}, removes("snap.new"), appends("log.000001", ""))
	opening(t, "without new ones", want, append(slices.Clone(all[:2]), all[4:8]...), cuts("log.000001", len(log)), syncs("log.000001"))

	y := snapshot(9, 1, "y", 1)
	opening(t, "of another's", api.Saved{Snap: y}, []string{"log.000001", framed(three[:1]...), "log.000002", framed(three[1:]...), "snap", snapText(y), "snap.new", ""},
		removes("snap.new"), syncs("log.000002"), removes("log.000002"), removes("log.000001"), appends("log.000010", ""))
	opening(t, "without a log", api.Saved{Snap: y}, []string{"snap", snapText(y)}, appends("log.000001", ""), removes("log.000001"), appends("log.000010", ""))
	opening(t, "of another's, without a snapshot", api.Saved{}, []string{"log.000002", ""}, syncs("log.000002"), removes("log.000002"), appends("log.000001", ""))
}

// What is loose when a disk is opened lasts behind it, as far as it is told.
func TestOpenLasts(t *testing.T) {
	d := disk.New(manyBytes)
	answers(t, "disk's Append", d.Append("log.000001", []byte(framed(three...)+"torn")), api.OK)
	tells(t, d, api.Saved{Entries: three})
}

// Of a disk that is refused: what lay beside is removed, and power may fail at that, and at nothing else.
func TestOpenBadDeeds(t *testing.T) {
	for _, files := range [][]string{
		{"hard", "spoilt", "hard.new", "", "snap.new", ""},
		{"hard.new", "", "snap", "spoilt", "snap.new", ""},
		{"hard.new", "", "log.000001", "torn", "log.000002", "", "snap.new", ""},
	} {
		for after, want := range []api.Errno{api.ErrOff, api.ErrOff, api.ErrBad, api.ErrBad} {
			d := laid(t, files...)
			d.Arm(after, 0)
			refused(t, d, want)
			if d.Up() != (after >= 2) {
				t.Errorf("%q: up %v behind %d deeds", files, d.Up(), after)
			}
			d.Start()
			refused(t, d, api.ErrBad)
		}
	}
}

// All calls of a stable whose disk's power failed end, be the disk up again or not, and whatever it has.
func TestCallsEnd(t *testing.T) {
	for after := range 7 {
		for _, start := range []bool{false, true} {
			for _, wiped := range []bool{false, true} {
				d, s, _ := behindThree(t)
				d.Arm(after, 3)
				s.SaveHard(5, 5)
				s.SaveSnap(snapshot(5, 9, "x", 1))
				d.Crash(0)
				if start {
					d.Start()
				}
				for _, name := range d.Files() {
					if wiped {
						d.Remove(name)
					}
				}
				callAll(s)
			}
		}
	}
}

// callAll calls all that a stable has.
func callAll(s *Stable) {
	for range 2 {
		for i := -1; i < 12; i++ {
			s.Put(commands(i, 3, "a", filling, filling))
			s.SaveHard(i, i)
			s.SaveSnap(snapshot(i, i, "x", 1))
		}
	}
	s.SaveSnap(snapshot(999998, 1, "", 1))
	s.Put(commands(999999, 3, "a", "b"))
}
