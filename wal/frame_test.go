package wal

import (
	"strings"
	"testing"

	"scriptorium/api"
	"scriptorium/disk"
)

// written are frames byte by byte, with sums that were worked out apart from the program.
var written = []struct {
	number int
	text   string
	bytes  string
}{
	{1, "ab", "\x02\x00\x00\x00\xda\x59\x12\xd3ab"},
	{2, "c", "\x01\x00\x00\x00\xca\x0c\x44\x1cc"},
	{1, "", "\x00\x00\x00\x00\xf7\xdf\x88\xa9"},
	{40, "x", "\x01\x00\x00\x00\x1b\xcd\xfe\x81x"},
	{258, "\x00\xff", "\x02\x00\x00\x00\x85\x43\x06\xdd\x00\xff"},
	{999999, "x", "\x01\x00\x00\x00\xda\x57\xaf\xd4x"},
	{3, strings.Repeat("z", 8192), "\x00\x20\x00\x00\xfb\x5e\x0a\x20" + strings.Repeat("z", 8192)},
}

// Append writes them so, and Open reads them so.
func TestFrameBytes(t *testing.T) {
	for _, w := range written {
		d := disk.New(manyBytes)
		l := opened(t, d)
		answers(t, "Reset", l.Reset(w.number), api.OK)
		answers(t, "Append", l.Append([]byte(w.text)), api.OK)
		name := d.Files()[0]
		hasFiles(t, d, name, w.bytes)
		has(t, opened(t, laid(t, name, w.bytes)), w.number, w.text)
		if framed(w.number, w.text) != w.bytes {
			t.Errorf("framed(%d, %.20q) is none of these", w.number, w.text)
		}
	}
}

// Frames stand one behind the other, with nothing between.
func TestFramesInARow(t *testing.T) {
	d := disk.New(manyBytes)
	l := opened(t, d)
	put(t, l, "ab", "c")
	hasFiles(t, d, "log.000001", "\x02\x00\x00\x00\xda\x59\x12\xd3ab\x01\x00\x00\x00\xca\x0c\x44\x1cc")
}

// A frame stands at its own number alone.
func TestFrameOfAnotherNumber(t *testing.T) {
	for _, number := range []int{1, 3, 256, 258, 65538, 999999} {
		has(t, opened(t, laid(t, "log.000002", framed(number, "ab"))), 2)
	}
	has(t, opened(t, laid(t, "log.000002", framed(2, "ab"))), 2, "ab")
	has(t, opened(t, laid(t, "log.000002", framed(2, "ab")+framed(2, "ab"))), 2, "ab")
	has(t, opened(t, laid(t, "log.000002", framed(2, "ab")+framed(4, "ab"))), 2, "ab")
}
