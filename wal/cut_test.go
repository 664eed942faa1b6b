package wal

import (
	"math"
	"slices"
	"testing"

	"scriptorium/api"
	"scriptorium/disk"
)

// segmentsOf are the files of a log of halves, two a segment, from a first number (an odd one) on.
func segmentsOf(first int, texts []string) []string {
	var files []string
	for pair := range slices.Chunk(texts, 2) {
		files = append(files, segment{number: first}.name(), frames(first, pair...))
		first += len(pair)
	}
	return files
}

func TestCutEach(t *testing.T) {
	for n := range 8 {
		for i := 1; i <= n+1; i++ {
			d, l, texts := halves(t, n)
			answers(t, "Cut", l.Cut(i), api.OK)
			left := texts[:i-1]
			has(t, l, 1, left...)
			want := segmentsOf(1, left)
			if len(left) == 0 {
				want = []string{"log.000001", ""}
			}
			hasFiles(t, d, want...)
			has(t, opened(t, d), 1, left...)
			restarted(d, 0)
			has(t, opened(t, d), 1, left...)
		}
	}
}

// The same, of logs that do not begin with 1.
func TestCutDropped(t *testing.T) {
	for i := 3; i <= 8; i++ {
		d, l, texts := halves(t, 7)
		answers(t, "Drop", l.Drop(4), api.OK)
		answers(t, "Cut", l.Cut(i), api.OK)
		has(t, l, 3, texts[2:i-1]...)
		has(t, opened(t, d), 3, texts[2:i-1]...)
		want := segmentsOf(3, texts[2:i-1])
		if i == 3 {
			want = []string{"log.000003", ""}
		}
		hasFiles(t, d, want...)
	}
}

func TestCutIndex(t *testing.T) {
	d, l, texts := halves(t, 7)
	answers(t, "Drop", l.Drop(3), api.OK)
	was := content(d)
	d.Arm(0, 0)
	for _, i := range []int{2, 1, 0, -1, math.MinInt, 9, 10, 999999, 1000000, math.MaxInt} {
		answers(t, "Cut out of bounds", l.Cut(i), api.ErrIndex)
	}
	has(t, l, 3, texts[2:]...)
	hasFiles(t, d, was...)
}

// Of a log without records First alone can be cut at, and nothing is done.
func TestCutNone(t *testing.T) {
	d := disk.New(100)
	l := opened(t, d)
	answers(t, "Cut(0)", l.Cut(0), api.ErrIndex)
	answers(t, "Cut(1)", l.Cut(1), api.OK)
	answers(t, "Cut(2)", l.Cut(2), api.ErrIndex)
	has(t, l, 1)
	answers(t, "Reset", l.Reset(999999), api.OK)
	answers(t, "Cut(999998)", l.Cut(999998), api.ErrIndex)
	answers(t, "Cut(999999)", l.Cut(999999), api.OK)
	answers(t, "Cut(1000000)", l.Cut(1000000), api.ErrIndex)
	put(t, l, "z")
	answers(t, "Cut(1000000)", l.Cut(1000000), api.OK)
	answers(t, "Cut(1000001)", l.Cut(1000001), api.ErrIndex)
	has(t, l, 999999, "z")
	hasFiles(t, d, "log.999999", framed(999999, "z"))
}

// Within a segment, wherever: the bytes ahead of it stay.
func TestCutWithin(t *testing.T) {
	texts := []string{"a", "", "bcd", wide('x', 300), "", "e"}
	for i := range texts {
		d := disk.New(manyBytes)
		l := opened(t, d)
		put(t, l, texts...)
		answers(t, "Cut", l.Cut(i+1), api.OK)
		hasFiles(t, d, "log.000001", frames(1, texts[:i]...))
		has(t, l, 1, texts[:i]...)
	}
}

// An empty segment at the end goes, if it is not the first one, and the one ahead goes on.
func TestCutEmptySegment(t *testing.T) {
	d := laid(t, "log.000003", frames(3, "c", "d"), "log.000005", "")
	l := opened(t, d)
	answers(t, "Cut", l.Cut(5), api.OK)
	hasFiles(t, d, "log.000003", frames(3, "c", "d"))
	has(t, l, 3, "c", "d")
	put(t, l, "e")
	hasFiles(t, d, "log.000003", frames(3, "c", "d", "e"))
}

// Behind a Cut others come in the place of those that are no more, in segments as of a log that never had them.
func TestCutAppend(t *testing.T) {
	for i := 1; i <= 8; i++ {
		d, l, texts := halves(t, 7)
		answers(t, "Cut", l.Cut(i), api.OK)
		more := append(texts[:i-1:i-1], half('A'), half('B'), half('C'))
		put(t, l, more[i-1:]...)
		has(t, l, 1, more...)
		hasFiles(t, d, segmentsOf(1, more)...)
		has(t, opened(t, d), 1, more...)
	}
}

// What was loose and is cut does not come back; what was loose ahead of it is loose still.
func TestCutLoose(t *testing.T) {
	d := disk.New(manyBytes)
	l := opened(t, d)
	put(t, l, "a")
	answers(t, "Sync", l.Sync(), api.OK)
	put(t, l, "b", "c")
	answers(t, "Cut", l.Cut(3), api.OK)
	put(t, l, "C")
	restarted(d, 9)
	has(t, opened(t, d), 1, "a", "b")

	l = opened(t, d)
	put(t, l, "c", "d")
	answers(t, "Cut", l.Cut(4), api.OK)
	restarted(d, 0)
	has(t, opened(t, d), 1, "a", "b")
}

func TestDropEach(t *testing.T) {
	for n := range 8 {
		for i := -1; i <= n+3; i++ {
			d, l, texts := halves(t, n)
			answers(t, "Drop", l.Drop(i), api.OK)
			// A segment is gone if the next one begins at i or ahead of it.
			first := 1
			for first+2 <= n && first+2 <= i {
				first += 2
			}
			has(t, l, first, texts[first-1:]...)
			want := segmentsOf(first, texts[first-1:])
			if n == 0 {
				want = []string{"log.000001", ""}
			}
			hasFiles(t, d, want...)
			has(t, opened(t, d), first, texts[first-1:]...)
			restarted(d, 0)
			has(t, opened(t, d), first, texts[first-1:]...)
		}
	}
}

// Any number may be dropped: the last segment stays.
func TestDropFar(t *testing.T) {
	for i, first := range map[int]int{math.MinInt: 1, -1: 1, 0: 1, 999999: 7, 1000000: 7, math.MaxInt: 7} {
		d, l, texts := halves(t, 7)
		answers(t, "Drop", l.Drop(i), api.OK)
		has(t, l, first, texts[first-1:]...)
		hasFiles(t, d, segmentsOf(first, texts[first-1:])...)
	}
}

// Of a log whose last segment is empty no record may be left.
func TestDropToAnEmptySegment(t *testing.T) {
	d := laid(t, "log.000003", frames(3, "c", "d"), "log.000005", "")
	l := opened(t, d)
	answers(t, "Drop(4)", l.Drop(4), api.OK)
	has(t, l, 3, "c", "d")
	answers(t, "Drop(5)", l.Drop(5), api.OK)
	has(t, l, 5)
	hasFiles(t, d, "log.000005", "")
	put(t, l, "e")
	has(t, l, 5, "e")
	hasFiles(t, d, "log.000005", framed(5, "e"))
}

func TestDropTwice(t *testing.T) {
	d, l, texts := halves(t, 7)
	for _, i := range []int{4, 3, 1, 6, 5, 7} {
		answers(t, "Drop", l.Drop(i), api.OK)
		first := l.First()
		has(t, l, first, texts[first-1:]...)
		has(t, opened(t, d), first, texts[first-1:]...)
	}
	if l.First() != 7 {
		t.Errorf("First is %d", l.First())
	}
	put(t, l, half('n'), "o")
	has(t, l, 7, texts[6], half('n'), "o")
	has(t, opened(t, d), 7, texts[6], half('n'), "o")
}

func TestReset(t *testing.T) {
	for n := range 6 {
		for _, i := range []int{1, 2, 3, 5, 6, 40, 999998, 999999} {
			d, l, _ := halves(t, n)
			answers(t, "Reset", l.Reset(i), api.OK)
			has(t, l, i)
			hasFiles(t, d, segment{number: i}.name(), "")
			has(t, opened(t, d), i)
			put(t, l, "new")
			has(t, l, i, "new")
			answers(t, "Sync", l.Sync(), api.OK)
			restarted(d, 0)
			has(t, opened(t, d), i, "new")
		}
	}
}

func TestResetArg(t *testing.T) {
	d, l, texts := halves(t, 5)
	was := content(d)
	d.Arm(0, 0)
	for _, i := range []int{0, -1, math.MinInt, api.MaxIndex + 1, api.MaxIndex + 2, math.MaxInt} {
		answers(t, "Reset out of bounds", l.Reset(i), api.ErrArg)
	}
	has(t, l, 1, texts...)
	hasFiles(t, d, was...)
}

// Two logs of two disks have nothing to do with each other.
func TestTwoLogs(t *testing.T) {
	d, l, texts := halves(t, 5)
	other := disk.New(manyBytes)
	m := opened(t, other)
	put(t, m, "x", "y")
	answers(t, "Cut", l.Cut(4), api.OK)
	answers(t, "Reset", m.Reset(9), api.OK)
	put(t, m, "z")
	has(t, l, 1, texts[:3]...)
	has(t, m, 9, "z")
	restarted(other, 0)
	has(t, l, 1, texts[:3]...)
	hasFiles(t, d, segmentsOf(1, texts[:3])...)
}
