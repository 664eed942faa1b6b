package disk

import (
	"math"
	"strings"
	"testing"

	"scriptorium/api"
)

// How many of 3, 4 and 5 loose bytes of three files stay, worked out by hand.
func TestKeep(t *testing.T) {
	for _, c := range []struct {
		keep    uint64
		a, b, c int
	}{
		{0, 0, 0, 0},
		{1, 1, 0, 0},
		{2, 2, 1, 0},
		{3, 3, 1, 1},
		{4, 0, 2, 1},
		{5, 1, 2, 1},
		{6, 2, 3, 2},
		{7, 3, 3, 2},
		{8, 0, 4, 2},
		{9, 1, 4, 3},
		{10, 2, 0, 3},
		{11, 3, 0, 3},
		{12, 0, 1, 4},
		{15, 3, 2, 5},
		{17, 1, 3, 5},
		{18, 2, 4, 0},
		{1 << 63, 0, 4, 2},
		{math.MaxUint64, 3, 2, 5},
	} {
		d := synced(t, 100, "c", "CC", "a", "A", "b", "")
		put(t, d, "b", "1234", "c", "12345", "a", "123")
		d.Crash(c.keep)
		d.Start()
		want := []string{"a", "A" + "123"[:c.a], "b", "1234"[:c.b], "c", "CC" + "12345"[:c.c]}
		has(t, d, want...)
		lasts(t, d, want...)
	}
}

// A file without loose bytes, or without any, has its place among the names, too.
func TestKeepPlaces(t *testing.T) {
	d := synced(t, 100, "a", "xyz", "b", "")
	put(t, d, "c", "12345", "d", "12345")
	d.Crash(12)
	d.Start()
	has(t, d, "a", "xyz", "b", "", "c", "1234", "d", "123")
}

// Names count as they are when power fails, not as they were.
func TestKeepNewNames(t *testing.T) {
	d := New(100)
	put(t, d, "a", "12345", "b", "uvwxy", "c", "x")
	answers(t, "Rename", d.Rename("a", "z"), api.OK)
	answers(t, "Remove", d.Remove("c"), api.OK)
	d.Crash(4)
	d.Start()
	has(t, d, "b", "uvwx", "z", "12")
}

// The numbers of many files, against divisions by counting.
func TestKeepMany(t *testing.T) {
	times := func(n, by uint64) (uint64, uint64) {
		q := uint64(0)
		for n >= by {
			n -= by
			q++
		}
		return q, n
	}
	for keep := range uint64(120) {
		d := New(1000)
		var want []string
		for i := range 12 {
			name, text := string(rune('a'+i)), strings.Repeat(string(rune('a'+i)), i*5%13)
			put(t, d, name, text)
			part, _ := times(keep, uint64(i+1))
			_, stay := times(part, uint64(len(text)+1))
			want = append(want, name, text[:stay])
		}
		d.Crash(keep)
		d.Start()
		has(t, d, want...)
	}
}

// What stays at a fall lasts: a second one takes only what came behind.
func TestSecondFall(t *testing.T) {
	d := New(100)
	put(t, d, "a", "12345", "b", "uvwxy")
	d.Crash(4)
	d.Start()
	has(t, d, "a", "1234", "b", "uv")
	put(t, d, "a", "678", "b", "z")
	d.Crash(2)
	d.Start()
	has(t, d, "a", "123467", "b", "uvz")
	for keep := range uint64(9) {
		d.Crash(keep)
		d.Start()
		has(t, d, "a", "123467", "b", "uvz")
	}
	if d.Falls() != 11 {
		t.Errorf("falls %d", d.Falls())
	}
}

// A fall with nothing loose, or without a file, is one.
func TestFallOfNothing(t *testing.T) {
	for _, keep := range []uint64{0, 1, 2, 1000, math.MaxUint64} {
		d := New(10)
		d.Crash(keep)
		if d.Up() || d.Falls() != 1 {
			t.Errorf("up %v, falls %d", d.Up(), d.Falls())
		}
		d.Start()
		has(t, d)
		d = synced(t, 10, "a", "xyz", "b", "")
		d.Crash(keep)
		d.Start()
		has(t, d, "a", "xyz", "b", "")
	}
}

// Crash of a disk that is not up is nothing.
func TestCrashNotUp(t *testing.T) {
	d := New(100)
	put(t, d, "a", "12345")
	d.Crash(3)
	for range 3 {
		d.Crash(0)
		d.Crash(1)
		if d.Up() || d.Falls() != 1 {
			t.Errorf("up %v, falls %d", d.Up(), d.Falls())
		}
	}
	d.Start()
	has(t, d, "a", "123")
	if d.Falls() != 1 {
		t.Errorf("falls %d", d.Falls())
	}
}

func TestFalls(t *testing.T) {
	d := New(100)
	for n := range 10 {
		if d.Falls() != n {
			t.Errorf("falls %d, not %d", d.Falls(), n)
		}
		if n%2 == 0 {
			d.Crash(uint64(n))
		} else {
			d.Arm(0, uint64(n))
			answers(t, "Append", d.Append("a", []byte("x")), api.ErrOff)
		}
		if d.Up() || d.Falls() != n+1 {
			t.Errorf("up %v, falls %d, not %d", d.Up(), d.Falls(), n+1)
		}
		d.Start()
	}
}
