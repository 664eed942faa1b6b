package stable

import (
	"encoding/binary"
	"math"
	"slices"
	"strings"
	"testing"

	"scriptorium/api"
)

// spoils checks that none of these are a file of a name, whatever else is there.
func spoils(t *testing.T, name string, texts ...string) {
	t.Helper()
	for _, text := range texts {
		refused(t, laid(t, name, text), api.ErrBad)
		refused(t, laid(t, name, text, "log.000001", framed(three...)), api.ErrBad)
		if t.Failed() {
			t.Fatalf("%s: %.100q", name, text)
		}
	}
}

// turned are a text with each one byte of it changed to each other one.
func turned(text string) []string {
	var all []string
	for i := range len(text) {
		for by := 1; by < 256; by++ {
			b := []byte(text)
			b[i] ^= byte(by)
			all = append(all, string(b))
		}
	}
	return all
}

// cut are its strict beginnings, and its strict ends.
func cut(text string) []string {
	var all []string
	for i := range len(text) {
		all = append(all, text[:i])
		if i > 0 {
			all = append(all, text[i:])
		}
	}
	return all
}

// behind are it with bytes behind, a sum of it all, too, or itself.
func behind(text string) []string {
	all := []string{text + text, summed(text), text + "\x00\x00\x00\x00", text + strings.Repeat("x", 5000)}
	for c := range 256 {
		all = append(all, text+string([]byte{byte(c)}))
	}
	return all
}

func TestHardSpoilt(t *testing.T) {
	for _, text := range []string{hardText(3, 2), hardText(0, 0), hardText(999999, 5)} {
		spoils(t, "hard", turned(text)...)
		spoils(t, "hard", cut(text)...)
		spoils(t, "hard", behind(text)...)
	}
}

func TestSnapSpoilt(t *testing.T) {
	for _, x := range []api.Snap{snapshot(1, 3, "", 1), snapshot(300, 2, "state", 1, 2, 5)} {
		text := snapText(x)
		spoils(t, "snap", turned(text)...)
		spoils(t, "snap", cut(text)...)
		spoils(t, "snap", behind(text)...)
	}
}

// great is a number that may be more than an int holds.
func great(n uint64) string { return string(binary.AppendUvarint(nil, n)) }

// greats are numbers that are too great everywhere, and such as are none.
var greats = []string{
	numbers(1000000), great(1 << 31), great(1<<32 + 1), great(math.MaxInt64), great(1 << 63), great(1<<63 + 1), great(math.MaxUint64), great(math.MaxUint64 - 3),
	"\x80\x00", "\x81\x00", "\x80", strings.Repeat("\xff", 9) + "\x02", strings.Repeat("\x80", 20) + "\x01",
}

// The sum is right, the numbers are not.
func TestHardNumbers(t *testing.T) {
	for _, term := range []int{0, 1, 127, 128, 999998, 999999} {
		for vote := range 6 {
			tells(t, laid(t, "hard", hardText(term, vote)), api.Saved{Term: term, Vote: vote})
		}
		for _, vote := range []int{6, 7, 127, 128, 1 << 40} {
			spoils(t, "hard", hardText(term, vote))
		}
	}
	for _, n := range greats {
		spoils(t, "hard", summed(n+numbers(1)), summed(numbers(1)+n), summed(n))
	}
	spoils(t, "hard", summed(""), summed(numbers(1)), summed(numbers(1, 2, 0)), summed(numbers(1, 2)+"x"), summed(summed(numbers(1, 2))))
}

// The bounds of an Index and a Term.
func TestSnapNumbers(t *testing.T) {
	rest := numbers(1, 3, 0)
	for _, index := range []int{1, 2, 127, 128, 999997, 999998} {
		for _, term := range []int{0, 1, 128, 999999} {
			x := snapshot(index, term, "", 3)
			tells(t, laid(t, "snap", snapText(x)), api.Saved{Snap: x})
		}
		spoils(t, "snap", snapText(snapshot(index, 1000000, "", 3)))
	}
	for _, index := range []int{0, 999999} {
		for _, term := range []int{0, 1, 999999} {
			spoils(t, "snap", snapText(snapshot(index, term, "", 3)))
		}
	}
	spoils(t, "snap", snapText(api.Snap{}))
	for _, n := range greats {
		spoils(t, "snap", summed(n+numbers(1)+rest), summed(numbers(1)+n+rest), summed(numbers(1, 1)+n+numbers(3, 0)), summed(numbers(1, 1, 1)+n+numbers(0)), summed(numbers(1, 1, 1, 3)+n))
	}
}

// Each group, and rows of nodes that are none.
func TestSnapNodes(t *testing.T) {
	groups := 0
	var rows func(row []int)
	rows = func(row []int) {
		x := snapshot(4, 1, "x", slices.Clone(row)...)
		if rising(row) {
			groups++
			tells(t, laid(t, "snap", snapText(x)), api.Saved{Snap: x})
		} else {
			refused(t, laid(t, "snap", snapText(x)), api.ErrBad)
		}
		for node := 0; node <= 6 && len(row) < 4; node++ {
			rows(append(row, node))
		}
	}
	rows(nil)
	five := snapshot(4, 1, "x", 1, 2, 3, 4, 5)
	tells(t, laid(t, "snap", snapText(five)), api.Saved{Snap: five})
	if groups != 30 {
		t.Errorf("%d groups", groups)
	}
	for _, row := range [][]int{{1, 2, 3, 4, 5, 5}, {1, 2, 3, 4, 5, 6}, {0, 1, 2, 3, 4, 5}, {1, 2, 3, 4, 4}, {1, 2, 3, 4, 6}, {5, 4, 3, 2, 1}} {
		spoils(t, "snap", snapText(snapshot(4, 1, "x", row...)))
	}
	// More nodes are said than there are, or less.
	spoils(t, "snap", summed(numbers(4, 1, 2, 1)), summed(numbers(4, 1, 2, 1, 0)), summed(numbers(4, 1, 3, 1, 2)+numbers(1)+"x"), summed(numbers(4, 1, 1, 1, 2, 0)))
}

// rising tells whether nodes are a group.
func rising(nodes []int) bool {
	return len(nodes) > 0 && len(nodes) <= 5 && nodes[0] >= 1 && nodes[len(nodes)-1] <= 5 &&
		slices.IsSorted(nodes) && len(slices.Compact(slices.Clone(nodes))) == len(nodes)
}

func TestSnapData(t *testing.T) {
	for _, size := range []int{0, 1, 127, 128, 16384, 299999, 300000} {
		x := snapshot(1, 1, strings.Repeat("d", size), 1)
		tells(t, laid(t, "snap", snapText(x)), api.Saved{Snap: x})
	}
	for _, size := range []int{300001, 300002, 400000} {
		spoils(t, "snap", snapText(snapshot(1, 1, strings.Repeat("d", size), 1)))
	}
	head := numbers(1, 1, 1, 1)
	spoils(t, "snap", summed(head), summed(head+numbers(1)), summed(head+numbers(3)+"ab"), summed(head+numbers(1)+"ab"), summed(head+numbers(0)+"x"), summed(head+numbers(0, 0)))
}

// noEntries are records that are no entry's.
func noEntries() []string {
	all := []string{
		"", numbers(0), numbers(1), numbers(0, 0), numbers(0, 1) + "x", numbers(0, 2, 1, 1), numbers(1, 3), numbers(1, 4) + "x", numbers(1, 128),
		numbers(1000000, 0), numbers(1000000, 1) + "x", numbers(1000000, 2, 1, 1),
		numbers(1, 0, 0), numbers(1, 0) + "x", numbers(1, 0, 1, 1),
		numbers(1, 1) + strings.Repeat("d", 8001), numbers(1, 1) + strings.Repeat("d", 8190), numbers(999999, 1) + strings.Repeat("d", 8001),
		numbers(1, 2), numbers(1, 2, 0), numbers(1, 2, 1), numbers(1, 2, 1, 0), numbers(1, 2, 1, 6), numbers(1, 2, 1, 1, 0), numbers(1, 2, 1, 1) + "x",
		numbers(1, 2, 2, 1), numbers(1, 2, 2, 1, 1), numbers(1, 2, 2, 2, 1), numbers(1, 2, 2, 4, 6), numbers(1, 2, 5, 1, 2, 3, 4, 4), numbers(1, 2, 5, 1, 2, 3, 4, 6),
		numbers(1, 2, 6, 1, 2, 3, 4, 5, 6), numbers(1, 2, 6, 0, 1, 2, 3, 4, 5), numbers(1, 2, 6, 1, 2, 3, 4, 5, 5), numbers(1, 2, 5, 1, 2, 3, 4), numbers(1, 2, 5, 1, 2, 3, 4, 5, 5),
	}
	for _, n := range greats {
		all = append(all, n, n+numbers(0), n+numbers(1)+"x", numbers(1)+n, numbers(1, 2)+n, numbers(1, 2)+n+numbers(1), numbers(1, 2, 1)+n)
	}
	return all
}

// Above the snapshot's Index they spoil all, wherever they stand; up to it they may be there.
func TestRecordsSpoilt(t *testing.T) {
	before, last := recordText(command(1, 5, "a")), recordText(none(4, 6))
	for _, bad := range noEntries() {
		spoils(t, "log.000001", frames(1, bad), frames(1, bad, before, last), frames(1, before, bad, last), frames(1, before, last, bad))
		for at, l := range [][]string{{bad, before, last}, {before, bad, last}, {before, last, bad}} {
			for index := 1; index <= 3; index++ {
				x := snapshot(index, 5, "", 1)
				files := []string{"log.000001", frames(1, l...), "snap", snapText(x)}
				d := laid(t, files...)
				if at >= index {
					refused(t, d, api.ErrBad)
					hasFiles(t, d, files...)
					continue
				}
				_, w := opened(t, d)
				if told(api.Saved{Snap: w.Snap}) != told(api.Saved{Snap: x}) || len(w.Entries) != 3-index {
					t.Errorf("Open tells %s", told(w))
				}
			}
		}
		if t.Failed() {
			t.Fatalf("%.60q", bad)
		}
	}
}

// Each field at its bounds.
func TestRecordsAtBounds(t *testing.T) {
	for _, term := range []int{1, 2, 127, 128, 999999} {
		for _, e := range entries(none(1, term), command(1, term, ""), command(1, term, strings.Repeat("d", 8000)), grouping(1, term, 1), grouping(1, term, 5), grouping(1, term, 1, 2, 3, 4, 5)) {
			tells(t, laid(t, "log.000001", frames(1, recordText(e))), api.Saved{Entries: entries(e)})
		}
	}
	e := none(999999, 3)
	x := snapshot(999998, 3, "", 2)
	tells(t, laid(t, "log.999999", framed(e), "snap", snapText(x)), api.Saved{Snap: x, Entries: entries(e)})
}
