package stable

import (
	"strings"
	"testing"

	"scriptorium/api"
	"scriptorium/disk"
)

// hards are the bytes of hard; their sums, as those below, were worked out apart from the program.
var hards = []struct {
	term, vote int
	bytes      string
}{
	{0, 0, "\x00\x00\xff\x12\xd9\x41"},
	{3, 2, "\x03\x02\x10\x20\xfa\x84"},
	{128, 5, "\x80\x01\x05\x5c\x07\x05\x77"},
	{999999, 1, "\xbf\x84\x3d\x01\xa4\x4a\x86\x9f"},
}

func TestHardBytes(t *testing.T) {
	for _, h := range hards {
		d := disk.New(manyBytes)
		s, _ := opened(t, d)
		answers(t, "SaveHard", s.SaveHard(h.term, h.vote), api.OK)
		hasFiles(t, d, "hard", h.bytes, "log.000001", "")
		tells(t, laid(t, "hard", h.bytes), api.Saved{Term: h.term, Vote: h.vote})
		if hardText(h.term, h.vote) != h.bytes {
			t.Errorf("hardText(%d, %d) is none of these", h.term, h.vote)
		}
	}
}

var snaps = []struct {
	x     api.Snap
	bytes string
}{
	{snapshot(1, 3, "", 1), "\x01\x03\x01\x01\x00\x35\x2a\x2e\xf1"},
	{snapshot(2, 0, "state", 1, 2), "\x02\x00\x02\x01\x02\x05state\x49\x85\x54\x73"},
	{snapshot(999998, 999999, "\x00\xff", 1, 2, 3, 4, 5), "\xbe\x84\x3d\xbf\x84\x3d\x05\x01\x02\x03\x04\x05\x02\x00\xff\x17\x65\xab\x45"},
	{snapshot(300, 128, strings.Repeat("d", 130), 2, 5), "\xac\x02\x80\x01\x02\x02\x05\x82\x01" + strings.Repeat("d", 130) + "\x94\x09\x8a\xe3"},
}

func TestSnapBytes(t *testing.T) {
	for _, c := range snaps {
		d := disk.New(manyBytes)
		s, _ := opened(t, d)
		answers(t, "SaveSnap", s.SaveSnap(c.x), api.OK)
		hasFiles(t, d, segment(c.x.Index+1), "", "snap", c.bytes)
		tells(t, laid(t, "snap", c.bytes), api.Saved{Snap: c.x})
		if snapText(c.x) != c.bytes {
			t.Errorf("snapText(%v) is none of these", c.x)
		}
	}
}

var records = []struct {
	e     api.Entry
	bytes string
}{
	{none(1, 3), "\x03\x00"},
	{none(1, 999999), "\xbf\x84\x3d\x00"},
	{command(1, 1, ""), "\x01\x01"},
	{command(1, 128, "\x00ab\xff"), "\x80\x01\x01\x00ab\xff"},
	{grouping(1, 1, 1), "\x01\x02\x01\x01"},
	{grouping(1, 300, 1, 2, 3, 4, 5), "\xac\x02\x02\x05\x01\x02\x03\x04\x05"},
	{grouping(1, 2, 2, 5), "\x02\x02\x02\x02\x05"},
}

func TestRecordBytes(t *testing.T) {
	for _, r := range records {
		d := disk.New(manyBytes)
		s, _ := opened(t, d)
		answers(t, "Put", s.Put(entries(r.e)), api.OK)
		hasFiles(t, d, "log.000001", frames(1, r.bytes))
		tells(t, laid(t, "log.000001", frames(1, r.bytes)), api.Saved{Entries: entries(r.e)})
		if recordText(r.e) != r.bytes {
			t.Errorf("recordText(%v) is none of these", r.e)
		}
	}
}

// All of them one behind the other; the Index is the record's number, wherever the log begins.
func TestRecordsInARow(t *testing.T) {
	for _, begin := range []int{0, 1, 127, 999990} {
		w := api.Saved{}
		d := disk.New(manyBytes)
		s, _ := opened(t, d)
		if begin > 0 {
			w.Snap = snapshot(begin, 1, "x", 4)
			answers(t, "SaveSnap", s.SaveSnap(w.Snap), api.OK)
		}
		for i, r := range records {
			r.e.Index = begin + 1 + i
			w.Entries = append(w.Entries, r.e)
		}
		answers(t, "Put", s.Put(w.Entries), api.OK)
		if b, _ := d.Read(segment(begin + 1)); string(b) != framed(w.Entries...) {
			t.Errorf("the log has %q", b)
		}
		tells(t, d, w)
	}
}
