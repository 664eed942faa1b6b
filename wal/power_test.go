package wal

import (
	"slices"
	"testing"

	"scriptorium/api"
	"scriptorium/disk"
)

// A deed is done on a disk.
type deed func(d *disk.Disk) api.Errno

func appends(name, text string) deed {
	return func(d *disk.Disk) api.Errno { return d.Append(name, []byte(text)) }
}

func syncs(name string) deed {
	return func(d *disk.Disk) api.Errno { return d.Sync(name) }
}

func cuts(name string, n int) deed {
	return func(d *disk.Disk) api.Errno { return d.Cut(name, n) }
}

func removes(name string) deed {
	return func(d *disk.Disk) api.Errno { return d.Remove(name) }
}

// allDone does deeds till one answers an error.
func allDone(d *disk.Disk, deeds []deed) api.Errno {
	for _, do := range deeds {
		if err := do(d); err != api.OK {
			return err
		}
	}
	return api.OK
}

// keeps are how much of what is loose stays in the falls that are tried.
var keeps = []uint64{0, 1, 2, 3, 7, 8, 9, 10, 100, 1000, 1030, 2047, 1 << 40}

// checkDeeds: a call does these deeds alone, in this order: with power failing at each of them, and behind all, a disk is left as by the deeds themselves; and what Open then tells is checked.
func checkDeeds(t *testing.T, what string, fresh func() *disk.Disk, call func(d *disk.Disk) api.Errno, deeds []deed, checks func(l *Log)) {
	t.Helper()
	for after := range len(deeds) + 2 {
		for _, keep := range keeps {
			d, bare := fresh(), fresh()
			d.Arm(after, keep)
			bare.Arm(after, keep)
			answers(t, what, call(d), allDone(bare, deeds))
			if d.Up() != bare.Up() || d.Up() != (after >= len(deeds)) {
				t.Errorf("%s: power failed behind %d deeds: %v, %v", what, after, !d.Up(), !bare.Up())
			}
			d.Start()
			bare.Start()
			hasFiles(t, d, content(bare)...)
			hasFiles(t, restarted(d, keep), content(restarted(bare, keep))...)
			checks(opened(t, d))
		}
		if t.Failed() {
			t.Fatalf("%s: power fails behind %d deeds", what, after)
		}
	}
}

// logOf is a fresh disk with a log on it, with which something is done ahead of a call; the log is found again by its disk.
type logOf struct {
	ready func(l *Log)
	logs  map[*disk.Disk]*Log
}

func (o *logOf) fresh() *disk.Disk {
	d := disk.New(manyBytes)
	l, _ := Open(d)
	o.ready(l)
	o.logs[d] = l
	return d
}

func (o *logOf) call(do func(l *Log) api.Errno) func(d *disk.Disk) api.Errno {
	return func(d *disk.Disk) api.Errno { return do(o.logs[d]) }
}

// checkCall is checkDeeds of a log's call.
func checkCall(t *testing.T, what string, ready func(l *Log), do func(l *Log) api.Errno, deeds []deed, checks func(l *Log)) {
	t.Helper()
	o := &logOf{ready: ready, logs: map[*disk.Disk]*Log{}}
	checkDeeds(t, what, o.fresh, o.call(do), deeds, checks)
}

// refuses is a call that is to answer an error, and OK if it does.
func refuses(want api.Errno, do func(l *Log) api.Errno) func(l *Log) api.Errno {
	return func(l *Log) api.Errno {
		if err := do(l); err != want {
			return err
		}
		return api.OK
	}
}

// texts are all records of a log.
func texts(l *Log) []string {
	var all []string
	for i := l.First(); i <= l.Last(); i++ {
		b, _ := l.Get(i)
		all = append(all, string(b))
	}
	return all
}

// begins tells whether b begins with a.
func begins(a, b []string) bool {
	return len(a) <= len(b) && slices.Equal(a, b[:len(a)])
}

// between checks that a log begins with first, has all of least, and nothing but a beginning of most.
func between(t *testing.T, what string, first int, least, most []string) func(l *Log) {
	return func(l *Log) {
		t.Helper()
		all := texts(l)
		if l.First() != first || !begins(least, all) || !begins(all, most) {
			t.Errorf("%s: First %d, and %.200q: less than %.200q, or no beginning of %.200q", what, l.First(), all, least, most)
		}
	}
}

// filled appends halves, two a segment, and syncs if they are to last.
func filled(n int, synced bool, more ...string) func(l *Log) {
	return func(l *Log) {
		for i := range n {
			l.Append([]byte(half(byte(i))))
		}
		if synced {
			l.Sync()
		}
		for _, text := range more {
			l.Append([]byte(text))
		}
	}
}

// manyHalves are the texts of filled.
func manyHalves(n int) []string {
	var all []string
	for i := range n {
		all = append(all, half(byte(i)))
	}
	return all
}

func TestAppendDeeds(t *testing.T) {
	add := func(text string) func(l *Log) api.Errno {
		return func(l *Log) api.Errno { return l.Append([]byte(text)) }
	}
	one := []string{"a", "b"}
	checkCall(t, "the first one", filled(0, false), add("a"), []deed{appends("log.000001", framed(1, "a"))},
		between(t, "the first one", 1, nil, one[:1]))
	checkCall(t, "one of nothing", filled(0, false), add(""), []deed{appends("log.000001", framed(1, ""))},
		between(t, "one of nothing", 1, nil, []string{""}))
	checkCall(t, "one more", filled(0, true, "a"), add("b"), []deed{appends("log.000001", framed(2, "b"))},
		between(t, "one more", 1, nil, one))

	two := append(manyHalves(2), "c", "d")
	checkCall(t, "behind a full segment", filled(2, false), add("c"),
		[]deed{syncs("log.000001"), appends("log.000003", framed(3, "c"))},
		between(t, "behind a full segment", 1, nil, two[:3]))
	checkCall(t, "behind a full segment that lasts", filled(2, true), add("c"),
		[]deed{syncs("log.000001"), appends("log.000003", framed(3, "c"))},
		between(t, "behind a full segment that lasts", 1, two[:2], two[:3]))
	checkCall(t, "in a second segment", filled(2, false, "c"), add("d"), []deed{appends("log.000003", framed(4, "d"))},
		between(t, "in a second segment", 1, two[:2], two))
	checkCall(t, "too long", filled(2, true), refuses(api.ErrLong, add(wide('l', api.MaxRecord+1))), nil,
		between(t, "too long", 1, two[:2], two[:2]))
}

func TestSyncDeeds(t *testing.T) {
	sync := func(l *Log) api.Errno { return l.Sync() }
	three := append(manyHalves(2), "c")
	checkCall(t, "Sync of nothing", filled(0, false), sync, []deed{syncs("log.000001")}, between(t, "Sync of nothing", 1, nil, nil))
	checkCall(t, "Sync", filled(2, false), sync, []deed{syncs("log.000001")}, between(t, "Sync", 1, nil, three[:2]))
	checkCall(t, "Sync of the last", filled(2, false, "c"), sync, []deed{syncs("log.000003")}, between(t, "Sync of the last", 1, three[:2], three))
}

func TestCutDeeds(t *testing.T) {
	six := manyHalves(6)
	for i, deeds := range map[int][]deed{
		0: nil,
		1: {removes("log.000005"), removes("log.000003"), cuts("log.000001", 0)},
		2: {removes("log.000005"), removes("log.000003"), cuts("log.000001", 1024)},
		3: {removes("log.000005"), removes("log.000003")},
		4: {removes("log.000005"), cuts("log.000003", 1024)},
		5: {removes("log.000005")},
		6: {cuts("log.000005", 1024)},
		7: nil,
		8: nil,
	} {
		least := six
		if 1 <= i && i <= 6 {
			least = six[:i-1]
		}
		cut := func(l *Log) api.Errno { return l.Cut(i) }
		if i == 0 || i == 8 {
			cut = refuses(api.ErrIndex, cut)
		}
		checkCall(t, "Cut", filled(6, true), cut, deeds, between(t, "Cut", 1, least, six))
		// Of loose records some may be gone: those of the last segment alone.
		checkCall(t, "Cut of loose ones", filled(6, false), cut, deeds, between(t, "Cut of loose ones", 1, least[:min(len(least), 4)], six))
	}
}

// Of a log that begins with an empty segment, and of one whose last segment is empty.
func TestCutDeedsOfEmpty(t *testing.T) {
	cut := func(i int) func(l *Log) api.Errno { return func(l *Log) api.Errno { return l.Cut(i) } }
	checkCall(t, "Cut of none", filled(0, false), cut(1), nil, between(t, "Cut of none", 1, nil, nil))

	fresh := func() *disk.Disk { return laid(t, "log.000003", frames(3, "c", "d"), "log.000005", "") }
	for i, deeds := range map[int][]deed{
		3: {removes("log.000005"), cuts("log.000003", 0)},
		4: {removes("log.000005"), cuts("log.000003", 9)},
		5: {removes("log.000005")},
	} {
		call := func(d *disk.Disk) api.Errno {
			l, err := Open(d)
			if err != api.OK {
				return err
			}
			return l.Cut(i)
		}
		all := append([]deed{syncs("log.000005")}, deeds...)
		checkDeeds(t, "Cut", fresh, call, all, between(t, "Cut", 3, []string{"c", "d"}[:i-3], []string{"c", "d"}))
	}
}

func TestDropDeeds(t *testing.T) {
	six := manyHalves(6)
	for i, deeds := range map[int][]deed{
		-1:      nil,
		2:       nil,
		3:       {removes("log.000001")},
		4:       {removes("log.000001")},
		5:       {removes("log.000001"), removes("log.000003")},
		6:       {removes("log.000001"), removes("log.000003")},
		7:       {removes("log.000001"), removes("log.000003")},
		1000000: {removes("log.000001"), removes("log.000003")},
	} {
		drop := func(l *Log) api.Errno { return l.Drop(i) }
		checkCall(t, "Drop", filled(6, true), drop, deeds, func(l *Log) {
			if l.First() > max(i, 1) || l.Last() != 6 {
				t.Errorf("Drop(%d): %d to %d", i, l.First(), l.Last())
				return
			}
			has(t, l, l.First(), six[l.First()-1:]...)
		})
	}
}

func TestResetDeeds(t *testing.T) {
	five := manyHalves(5)
	for _, i := range []int{1, 3, 5, 6, 999999} {
		name := segment{number: i}.name()
		deeds := []deed{removes("log.000005"), removes("log.000003"), removes("log.000001"), appends(name, "")}
		reset := func(l *Log) api.Errno { return l.Reset(i) }
		checkCall(t, "Reset", filled(5, true), reset, deeds, func(l *Log) {
			// All that there was up to some number, or nothing: from the new number on, or from 1.
			if l.Last() < l.First() && l.First() == i {
				return
			}
			between(t, "Reset", 1, nil, five)(l)
		})
	}
	for _, i := range []int{0, api.MaxIndex + 1} {
		reset := refuses(api.ErrArg, func(l *Log) api.Errno { return l.Reset(i) })
		checkCall(t, "Reset of a wrong number", filled(5, true), reset, nil, between(t, "Reset of a wrong number", 1, five, five))
	}
}

// Telling is no deed.
func TestTellingDeeds(t *testing.T) {
	five := manyHalves(5)
	tell := func(l *Log) api.Errno {
		has(t, l, 1, five...)
		return api.OK
	}
	checkCall(t, "First, Last, Get", filled(5, true), tell, nil, between(t, "First, Last, Get", 1, five, five))
}

func TestOpenDeeds(t *testing.T) {
	open := func(d *disk.Disk) api.Errno {
		l, err := Open(d)
		if (l == nil) != (err != api.OK) {
			t.Errorf("Open: %v %d", l, err)
		}
		return err
	}
	// lay is laid, but that the last file is loose.
	lay := func(files ...string) func() *disk.Disk {
		return func() *disk.Disk {
			n := len(files) - 2
			d := laid(t, files[:n]...)
			d.Append(files[n], []byte(files[n+1]))
			return d
		}
	}
	ab := []string{"a", "b"}
	empty := func() *disk.Disk { return disk.New(0) }
	checkDeeds(t, "Open of nothing", empty, open, []deed{appends("log.000001", "")}, between(t, "Open of nothing", 1, nil, nil))
	checkDeeds(t, "Open beside another file", lay("log.1", "torn"), open, []deed{appends("log.000001", "")},
		between(t, "Open beside another file", 1, nil, nil))
	checkDeeds(t, "Open of an empty one", lay("log.000009", ""), open, []deed{syncs("log.000009")},
		between(t, "Open of an empty one", 9, nil, nil))
	checkDeeds(t, "Open", lay("log.000001", frames(1, ab...)), open, []deed{syncs("log.000001")},
		between(t, "Open", 1, nil, ab))
	checkDeeds(t, "Open of a torn one", lay("log.000001", frames(1, ab...)+"torn"), open,
		[]deed{cuts("log.000001", 18), syncs("log.000001")}, between(t, "Open of a torn one", 1, nil, ab))
	checkDeeds(t, "Open of two", lay("log.000001", framed(1, "a"), "log.000002", framed(2, "b")), open,
		[]deed{syncs("log.000002")}, between(t, "Open of two", 1, ab[:1], ab))
	checkDeeds(t, "Open of two, torn", lay("log.000001", framed(1, "a"), "log.000002", framed(2, "b")+"torn"), open,
		[]deed{cuts("log.000002", 9), syncs("log.000002")}, between(t, "Open of two, torn", 1, ab[:1], ab))
	checkDeeds(t, "Open of nothing but torn", lay("log.000001", framed(1, "a"), "log.000002", "torn"), open,
		[]deed{cuts("log.000002", 0), syncs("log.000002")}, between(t, "Open of nothing but torn", 1, ab[:1], ab[:1]))
}

// A log that is refused: no deed is done, so that power can't fail at one.
func TestOpenBadDeeds(t *testing.T) {
	for _, files := range [][]string{
		{"log.000001", framed(1, "a"), "log.000003", "torn"},
		{"log.000001", framed(1, "a") + "torn", "log.000002", "torn"},
		{"log.999999", frames(999999, "a", "b") + "torn"},
	} {
		d := laid(t, files...)
		d.Arm(0, 0)
		refused(t, d, api.ErrBad)
	}
}

// Of a log whose disk's power failed, and of one of which a call answered ErrOff, all calls end, whatever the disk has then.
func TestCallsEnd(t *testing.T) {
	falls := map[string]func(d *disk.Disk, l *Log){
		"Crash":            func(d *disk.Disk, l *Log) { d.Crash(0) },
		"at Append":        func(d *disk.Disk, l *Log) { d.Arm(0, 3); l.Append([]byte("x")) },
		"at Append's Sync": func(d *disk.Disk, l *Log) { l.Append([]byte(half('x'))); d.Arm(0, 3); l.Append([]byte("x")) },
		"at Sync":          func(d *disk.Disk, l *Log) { d.Arm(0, 0); l.Sync() },
		"at Cut":           func(d *disk.Disk, l *Log) { d.Arm(1, 0); l.Cut(2) },
		"at Drop":          func(d *disk.Disk, l *Log) { d.Arm(1, 0); l.Drop(9) },
		"at Reset":         func(d *disk.Disk, l *Log) { d.Arm(1, 0); l.Reset(9) },
		"at Reset's end":   func(d *disk.Disk, l *Log) { d.Arm(3, 0); l.Reset(9) },
	}
	for what, fall := range falls {
		for _, start := range []bool{false, true} {
			for _, wiped := range []bool{false, true} {
				d := disk.New(manyBytes)
				l := opened(t, d)
				filled(4, true, "e")(l)
				fall(d, l)
				if d.Up() {
					t.Errorf("%s: it is up", what)
				}
				if start {
					d.Start()
				}
				for _, name := range d.Files() {
					if wiped {
						d.Cut(name, 0)
						d.Remove(name)
					}
				}
				callAll(l)
			}
		}
	}
}

// callAll calls all that a log has.
func callAll(l *Log) {
	for range 2 {
		for i := -1; i < 12; i++ {
			l.Get(i)
		}
		l.Append([]byte("y"))
		l.Sync()
		l.Cut(l.Last())
		l.Cut(l.First())
		l.Append(make([]byte, api.MaxRecord))
		l.Append(nil)
		l.Get(l.Last())
		l.Drop(l.Last())
		l.Reset(7)
		l.Append(nil)
		l.Get(7)
		l.Drop(1000000)
		l.Reset(0)
	}
}
