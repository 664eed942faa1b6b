package stable

import (
	"slices"
	"testing"

	"scriptorium/api"
	"scriptorium/disk"
)

// three are entries on which the tests of Open lean.
var three = entries(none(1, 1), command(2, 1, "two"), grouping(3, 2, 1, 4))

func TestOpenNew(t *testing.T) {
	d := disk.New(0)
	tells(t, d, api.Saved{})
	hasFiles(t, d, "log.000001", "")
}

func TestOpenNotUp(t *testing.T) {
	for _, d := range []*disk.Disk{disk.New(100), laid(t, "hard", hardText(1, 1), "hard.new", "torn"), laid(t, "hard", "spoilt"), laid(t, "log.000002", "")} {
		was := content(d)
		d.Crash(0)
		refused(t, d, api.ErrOff)
		d.Start()
		hasFiles(t, d, was...)
	}
}

// What stands in none of these files is nobody's.
func TestOpenOtherFiles(t *testing.T) {
	ahead := []string{"Hard", "x", "har", "x", "hard.ne", "x", "hard.new.new", "x", "hard2", "x"}
	behind := []string{"log.1", "x", "new", "x", "snap.", "x", "snap.new1", "x", "snapshot", "x"}
	d := laid(t, slices.Concat(ahead, behind)...)
	tells(t, d, api.Saved{})
	hasFiles(t, d, slices.Concat(ahead, []string{"log.000001", ""}, behind)...)
}

func TestOpenSaved(t *testing.T) {
	x := snapshot(2, 1, "state", 1, 2)
	for _, c := range []struct {
		files []string
		want  api.Saved
	}{
		{[]string{"hard", hardText(7, 0), "log.000001", ""}, api.Saved{Term: 7}},
		{[]string{"log.000003", "", "snap", snapText(x)}, api.Saved{Snap: x}},
		{[]string{"log.000001", framed(three...)}, api.Saved{Entries: three}},
		{[]string{"log.000001", framed(three[:1]...), "log.000002", framed(three[1:2]...), "log.000003", framed(three[2:]...)}, api.Saved{Entries: three}},
		{[]string{"hard", hardText(2, 3), "log.000001", framed(three...), "snap", snapText(x)}, api.Saved{Term: 2, Vote: 3, Snap: x, Entries: three[2:]}},
		{[]string{"hard", hardText(0, 5), "log.000003", framed(three[2:]...), "snap", snapText(x)}, api.Saved{Vote: 5, Snap: x, Entries: three[2:]}},
		{[]string{"log.000001", framed(three[:2]...), "snap", snapText(x)}, api.Saved{Snap: x}},
	} {
		d := laid(t, c.files...)
		tells(t, d, c.want)
		hasFiles(t, d, c.files...)
	}
}

// The terms of entries, and their groups, are not held against each other.
func TestOpenAnyTerms(t *testing.T) {
	l := entries(none(1, 9), none(2, 3), command(3, 999999, "x"), grouping(4, 1, 5), grouping(5, 1, 1, 2))
	tells(t, laid(t, "log.000001", framed(l...)), api.Saved{Entries: l})
	tells(t, laid(t, "hard", hardText(2, 1), "log.000001", framed(l...)), api.Saved{Term: 2, Vote: 1, Entries: l})
}

// What lies beside is gone, be it torn or whole, and what it says is not told.
func TestOpenNewEndings(t *testing.T) {
	x, y := snapshot(1, 1, "old", 1), snapshot(2, 9, "new", 2)
	for _, hard := range []string{"", "torn", hardText(9, 4)} {
		for _, snap := range []string{"", "torn", snapText(y)} {
			for _, lies := range [][]string{{"hard.new", hard}, {"snap.new", snap}, {"hard.new", hard, "snap.new", snap}} {
				d := laid(t, lies...)
				tells(t, d, api.Saved{})
				hasFiles(t, d, "log.000001", "")

				saved := []string{"hard", hardText(1, 2), "log.000001", framed(three...), "snap", snapText(x)}
				d = laid(t, append(slices.Clone(saved), lies...)...)
				tells(t, d, api.Saved{Term: 1, Vote: 2, Snap: x, Entries: three[1:]})
				hasFiles(t, d, saved...)
			}
		}
	}
}

// They are gone also where what is saved is spoilt; and the log is not opened then.
func TestOpenNewEndingsOfSpoilt(t *testing.T) {
	for _, files := range [][]string{
		{"hard", "spoilt"}, {"snap", "spoilt"}, {"hard", "spoilt", "snap", "spoilt"},
		{"hard", hardText(1, 1), "snap", ""}, {"hard", "", "snap", snapText(snapshot(1, 1, "", 1))},
		{"hard", "spoilt", "log.000001", framed(three...) + "torn"}, {"log.000001", framed(three...) + "torn", "snap", "spoilt"},
		{"hard", "spoilt", "log.000007", framed(none(7, 1))},
	} {
		d := laid(t, append(slices.Clone(files), "hard.new", "x", "snap.new", "y")...)
		refused(t, d, api.ErrBad)
		hasFiles(t, d, files...)
		refused(t, d, api.ErrBad)
	}
}

// A log that is spoilt, wherever the snapshot stands, and whatever else is there.
func TestOpenLogSpoilt(t *testing.T) {
	turned := []byte(framed(three[:2]...))
	turned[9] ^= 1
	for _, files := range [][]string{
		{"log.000001", string(turned), "log.000003", framed(three[2:]...)},
		{"log.000001", framed(three[:1]...) + "torn", "log.000002", ""},
		{"log.000001", framed(three[:1]...), "log.000003", framed(three[2:]...)},
		{"log.999999", framed(none(999999, 1), none(1000000, 1))},
	} {
		refused(t, laid(t, files...), api.ErrBad)
		for _, index := range []int{1, 2, 3, 999998} {
			refused(t, laid(t, append(slices.Clone(files), "snap", snapText(snapshot(index, 9, "", 1)))...), api.ErrBad)
		}
	}
}

// What is torn at the log's end is no damage, nor told.
func TestOpenLogTorn(t *testing.T) {
	whole := framed(three...)
	for n := range len(whole) + 1 {
		left := slices.Clone(three)
		for len(framed(left...)) > n {
			left = left[:len(left)-1]
		}
		d := laid(t, "log.000001", whole[:n])
		tells(t, d, api.Saved{Entries: left})
		hasFiles(t, d, "log.000001", framed(left...))
	}
}

// logOf is a log's file: of entries that go on, or, of none, one that begins with a number.
func logOf(number int, l ...api.Entry) []string {
	if len(l) > 0 {
		number = l[0].Index
	}
	return []string{segment(number), framed(l...)}
}

// A log that is another's begins anew; one that just is not stays. Each way, and its edge.
func TestOpenAnothers(t *testing.T) {
	ones := commands(1, 4, "1", "2", "3", "4", "5")
	low, same, high := command(3, 3, "low"), command(3, 4, "same"), command(3, 5, "high")
	fourLow := command(4, 1, "behind")
	for _, c := range []struct {
		what    string
		x       api.Snap
		log     []string
		another bool
		left    []api.Entry
	}{
		{"its Last is below", snapshot(6, 4, "", 1), logOf(0, ones...), true, nil},
		{"its Last is far below", snapshot(999998, 4, "", 1), logOf(0, ones...), true, nil},
		{"its Last is the Index", snapshot(5, 4, "", 1), logOf(0, ones...), false, nil},
		{"its Last is one above", snapshot(4, 4, "", 1), logOf(0, ones...), false, ones[4:]},
		{"it has nothing", snapshot(1, 4, "", 1), logOf(1), true, nil},
		{"it has nothing, and begins at the Index", snapshot(3, 4, "", 1), logOf(3), true, nil},
		{"it has nothing, and begins behind it", snapshot(3, 4, "", 1), logOf(4), false, nil},
		{"it has nothing, and begins further behind it", snapshot(3, 4, "", 1), logOf(5), true, nil},
		{"its First is above", snapshot(1, 4, "", 1), logOf(0, ones[2:]...), true, nil},
		{"its First is far above", snapshot(1, 4, "", 1), logOf(0, command(999999, 4, "x")), true, nil},
		{"its First is just behind", snapshot(2, 4, "", 1), logOf(0, ones[2:]...), false, ones[2:]},
		{"its First is the Index", snapshot(3, 4, "", 1), logOf(0, ones[2:]...), false, ones[3:]},
		{"without a snapshot its First is 2", api.Snap{}, logOf(2), true, nil},
		{"without a snapshot its First is 2, with a record", api.Snap{}, logOf(0, ones[1:]...), true, nil},
		{"without a snapshot its First is 1", api.Snap{}, logOf(0, ones...), false, ones},
		{"a lower term", snapshot(2, 4, "", 1), logOf(0, ones[0], ones[1], low, fourLow), true, nil},
		{"a lower term at its First", snapshot(2, 4, "", 1), logOf(0, low), true, nil},
		{"the lowest term", snapshot(2, 999999, "", 1), logOf(0, none(3, 1)), true, nil},
		{"a group of a lower term", snapshot(2, 4, "", 1), logOf(0, grouping(3, 3, 1, 2)), true, nil},
		{"the same term", snapshot(2, 4, "", 1), logOf(0, ones[0], ones[1], same, fourLow), false, entries(same, fourLow)},
		{"a higher term", snapshot(2, 4, "", 1), logOf(0, ones[0], ones[1], high), false, entries(high)},
		{"a lower term further behind", snapshot(1, 4, "", 1), logOf(0, ones[0], ones[1], low), false, entries(ones[1], low)},
		{"a lower term at the Index", snapshot(3, 4, "", 1), logOf(0, ones[0], ones[1], low, ones[3]), false, ones[3:4]},
		{"a snapshot of no term", snapshot(2, 0, "", 1), logOf(0, none(3, 1)), false, entries(none(3, 1))},
	} {
		files := slices.Clone(c.log)
		if c.x.Index > 0 {
			files = append(files, "snap", snapText(c.x))
		}
		d := laid(t, files...)
		tells(t, d, api.Saved{Snap: c.x, Entries: c.left})
		if c.another {
			files[0], files[1] = segment(c.x.Index+1), ""
		}
		hasFiles(t, d, files...)
		s, _ := opened(t, d)
		next := none(c.x.Index+1+len(c.left), max(9, c.x.Term))
		answers(t, c.what+": Put", s.Put(entries(next)), api.OK)
		tells(t, d, api.Saved{Snap: c.x, Entries: append(slices.Clone(c.left), next)})
		if t.Failed() {
			t.Fatal(c.what)
		}
	}
}

// All of another's segments are gone, and no other file.
func TestOpenAnothersSegments(t *testing.T) {
	x := snapshot(9, 1, "", 1)
	d := laid(t, "hard", hardText(1, 1), "log.000001", framed(three[:1]...), "log.000002", framed(three[1:]...), "log.000004", "", "log.1", "", "snap", snapText(x))
	tells(t, d, api.Saved{Term: 1, Vote: 1, Snap: x})
	hasFiles(t, d, "hard", hardText(1, 1), "log.000010", "", "log.1", "", "snap", snapText(x))
}

// Whether a log is another's is looked at ahead of whether its records are entries; a record that is none is of no lower term.
func TestOpenAnothersSpoilt(t *testing.T) {
	x := snapshot(2, 4, "", 1)
	for _, files := range [][]string{
		{"log.000001", frames(1, "")},
		{"log.000009", frames(9, "", "none")},
		{"log.000003", framed(command(3, 3, "low")) + frames(4, "", "none")},
	} {
		tells(t, laid(t, append(files, "snap", snapText(x))...), api.Saved{Snap: x})
	}
	for _, none := range []string{"", "\x01", "\x01\x03", "\x01\x00x", "\x00\x00", "\x01\x02\x02\x02\x01"} {
		files := []string{"log.000003", frames(3, none), "snap", snapText(x)}
		d := laid(t, files...)
		refused(t, d, api.ErrBad)
		hasFiles(t, d, files...)
	}
}
