package wal

import (
	"fmt"
	"math"
	"strings"
	"testing"

	"scriptorium/api"
	"scriptorium/disk"
)

// half is a text of which two fill a segment just so: with its frame it has half of SegBytes.
func half(mark byte) string { return wide(mark, api.SegBytes/2-8) }

// halves is a log of so many of them from the number 1 on, two a segment, all synced; and their texts.
func halves(t *testing.T, n int) (*disk.Disk, *Log, []string) {
	t.Helper()
	d := disk.New(manyBytes)
	l := opened(t, d)
	var texts []string
	for i := range n {
		texts = append(texts, half(byte(i)))
	}
	put(t, l, texts...)
	answers(t, "Sync", l.Sync(), api.OK)
	return d, l, texts
}

func TestGet(t *testing.T) {
	_, l, texts := halves(t, 7)
	has(t, l, 1, texts...)
	answers(t, "Drop", l.Drop(3), api.OK)
	has(t, l, 3, texts[2:]...)
	for _, i := range []int{2, 1, 0, -1, 8, 9, 1000000, math.MinInt, math.MaxInt} {
		if b, err := l.Get(i); err != api.ErrIndex || len(b) != 0 {
			t.Errorf("Get(%d): %d bytes, %d", i, len(b), err)
		}
	}
	for _, i := range []int{3, 4, 5, 6, 7, 3} {
		if b, err := l.Get(i); err != api.OK || string(b) != texts[i-1] {
			t.Errorf("Get(%d): %d bytes, %d", i, len(b), err)
		}
	}
}

// Of a log without records there is none to get.
func TestGetNone(t *testing.T) {
	l := opened(t, disk.New(100))
	has(t, l, 1)
	answers(t, "Reset", l.Reset(999999), api.OK)
	has(t, l, 999999)
	for _, i := range []int{0, 1, 2, 999997, 1000001, math.MinInt, math.MaxInt} {
		if b, err := l.Get(i); err != api.ErrIndex || len(b) != 0 {
			t.Errorf("Get(%d): %q, %d", i, b, err)
		}
	}
}

func TestAppendSizes(t *testing.T) {
	for _, size := range []int{0, 1, 2, 255, 256, 257, 2039, 2040, 2041, 4096, api.MaxRecord - 1, api.MaxRecord} {
		d := disk.New(manyBytes)
		l := opened(t, d)
		text := wide('s', size)
		put(t, l, text)
		has(t, l, 1, text)
		hasFiles(t, d, "log.000001", framed(1, text))
		put(t, l, text, "")
		has(t, l, 1, text, text, "")
		has(t, opened(t, d), 1, text, text, "")
	}
}

func TestAppendNil(t *testing.T) {
	d := disk.New(100)
	l := opened(t, d)
	answers(t, "Append of nil", l.Append(nil), api.OK)
	answers(t, "Append of nil", l.Append(nil), api.OK)
	has(t, l, 1, "", "")
	hasFiles(t, d, "log.000001", frames(1, "", ""))
}

func TestAppendLong(t *testing.T) {
	d := disk.New(manyBytes)
	l := opened(t, d)
	put(t, l, "ab")
	for _, size := range []int{api.MaxRecord + 1, api.MaxRecord + 2, 65536, 1 << 20} {
		answers(t, "Append of too much", l.Append(make([]byte, size)), api.ErrLong)
	}
	has(t, l, 1, "ab")
	hasFiles(t, d, "log.000001", framed(1, "ab"))
	put(t, l, "c")
	has(t, l, 1, "ab", "c")
}

// The last number is MaxIndex; a record that is too long is told ahead of that.
func TestAppendMany(t *testing.T) {
	d := disk.New(manyBytes)
	l := opened(t, d)
	answers(t, "Reset", l.Reset(api.MaxIndex-1), api.OK)
	put(t, l, "y", "z")
	was := content(d)
	d.Arm(0, 0)
	answers(t, "one too many", l.Append([]byte("!")), api.ErrMany)
	answers(t, "one too many", l.Append(nil), api.ErrMany)
	answers(t, "one too many", l.Append(make([]byte, api.MaxRecord)), api.ErrMany)
	answers(t, "too long, too many", l.Append(make([]byte, api.MaxRecord+1)), api.ErrLong)
	has(t, l, 999998, "y", "z")
	hasFiles(t, d, was...)
	d.Arm(-1, 0)
	has(t, opened(t, d), 999998, "y", "z")

	answers(t, "Cut", l.Cut(999999), api.OK)
	put(t, l, "Z")
	answers(t, "one too many", l.Append(nil), api.ErrMany)
	has(t, l, 999998, "y", "Z")
	hasFiles(t, d, "log.999998", frames(999998, "y", "Z"))
}

// Nor is a full segment synced there, or a new one made.
func TestAppendManyFull(t *testing.T) {
	d := disk.New(manyBytes)
	l := opened(t, d)
	answers(t, "Reset", l.Reset(api.MaxIndex-2), api.OK)
	full := wide('f', 5000)
	put(t, l, full, full, full)
	hasFiles(t, d, "log.999997", framed(999997, full), "log.999998", framed(999998, full), "log.999999", framed(999999, full))
	answers(t, "one too many", l.Append(nil), api.ErrMany)
	has(t, l, 999997, full, full, full)
	restarted(d, 0)
	hasFiles(t, d, "log.999997", framed(999997, full), "log.999998", framed(999998, full), "log.999999", "")
}

// A segment is full with SegBytes bytes: with one less there is room for one more record, of whatever size.
func TestAppendFull(t *testing.T) {
	for _, size := range []int{1, 8, 9, 2038, 2039, 2040, 2041, 2042, 3000, api.MaxRecord} {
		d := disk.New(manyBytes)
		l := opened(t, d)
		first, next := wide('f', size), wide('n', api.MaxRecord)
		put(t, l, first, next)
		if size+8 >= 2048 {
			hasFiles(t, d, "log.000001", framed(1, first), "log.000002", framed(2, next))
		} else {
			hasFiles(t, d, "log.000001", frames(1, first, next))
		}
		has(t, l, 1, first, next)
		has(t, opened(t, d), 1, first, next)
	}
}

// So it is with many small records: the 256th of eight bytes each is the last one of its segment.
func TestAppendFullOfSmall(t *testing.T) {
	d := disk.New(manyBytes)
	l := opened(t, d)
	texts := make([]string, 1000)
	put(t, l, texts...)
	hasFiles(t, d, "log.000001", frames(1, texts[:256]...), "log.000257", frames(257, texts[:256]...),
		"log.000513", frames(513, texts[:256]...), "log.000769", frames(769, texts[:232]...))
	has(t, l, 1, texts...)
}

// A log that was opened goes on in its last segment, be it full, empty or torn.
func TestAppendOpened(t *testing.T) {
	full := wide('f', 2040)
	for _, c := range []struct{ last, torn, want string }{
		{"", "", framed(5, "new")},
		{"", "torn", framed(5, "new")},
		{framed(5, full[1:]), "", framed(5, full[1:]) + framed(6, "new")},
		{framed(5, full[1:]), strings.Repeat("t", 3000), framed(5, full[1:]) + framed(6, "new")},
		{framed(5, full), "", framed(5, full)},
		{framed(5, full), "torn", framed(5, full)},
	} {
		d := laid(t, "log.000004", framed(4, "d"), "log.000005", c.last+c.torn)
		l := opened(t, d)
		put(t, l, "new")
		want := []string{"log.000004", framed(4, "d"), "log.000005", c.want}
		if len(c.last) >= api.SegBytes {
			want = append(want, "log.000006", framed(6, "new"))
		}
		hasFiles(t, d, want...)
	}
}

// A new segment's name is its first record's number, in six digits.
func TestAppendNames(t *testing.T) {
	for _, number := range []int{1, 8, 9, 98, 99, 998, 999, 1000, 9998, 9999, 99998, 99999, 100000, 123456, 999997} {
		d := disk.New(manyBytes)
		l := opened(t, d)
		answers(t, "Reset", l.Reset(number), api.OK)
		full := wide('f', 2040)
		put(t, l, full, full, full)
		var want []string
		for i := range 3 {
			want = append(want, fmt.Sprintf("log.%06d", number+i), framed(number+i, full))
		}
		hasFiles(t, d, want...)
		has(t, opened(t, d), number, full, full, full)
	}
}

// What is synced stays; a segment that is left behind is synced ahead of the next one's making.
func TestSync(t *testing.T) {
	d := disk.New(manyBytes)
	l := opened(t, d)
	put(t, l, "a", "b")
	answers(t, "Sync", l.Sync(), api.OK)
	put(t, l, "c")
	restarted(d, 0)
	l = opened(t, d)
	has(t, l, 1, "a", "b")

	put(t, l, half('x'), half('y'), "loose")
	hasFiles(t, d, "log.000001", frames(1, "a", "b", half('x'), half('y')), "log.000005", framed(5, "loose"))
	restarted(d, 0)
	hasFiles(t, d, "log.000001", frames(1, "a", "b", half('x'), half('y')), "log.000005", "")
	has(t, opened(t, d), 1, "a", "b", half('x'), half('y'))
}

// Without a Sync, and without a segment left behind, nothing lasts.
func TestAppendIsLoose(t *testing.T) {
	d := disk.New(manyBytes)
	l := opened(t, d)
	put(t, l, half('x'), half('y'))
	restarted(d, 0)
	hasFiles(t, d, "log.000001", "")
	has(t, opened(t, d), 1)
}

// Sync reaches the last segment, whichever it is.
func TestSyncTheLast(t *testing.T) {
	d, l, texts := halves(t, 4)
	put(t, l, "e")
	answers(t, "Sync", l.Sync(), api.OK)
	restarted(d, 0)
	has(t, opened(t, d), 1, append(texts, "e")...)

	l = opened(t, d)
	answers(t, "Cut", l.Cut(4), api.OK)
	put(t, l, "D")
	answers(t, "Sync", l.Sync(), api.OK)
	restarted(d, 0)
	has(t, opened(t, d), 1, texts[0], texts[1], texts[2], "D")
}

// A Sync of a log without records, and one behind another, are well.
func TestSyncNothing(t *testing.T) {
	d := disk.New(0)
	l := opened(t, d)
	answers(t, "Sync", l.Sync(), api.OK)
	answers(t, "Sync", l.Sync(), api.OK)
	has(t, l, 1)
	hasFiles(t, d, "log.000001", "")
}
