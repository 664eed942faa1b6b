package disk

import (
	"math"
	"strings"
	"testing"

	"scriptorium/api"
)

func TestAppend(t *testing.T) {
	d := New(20)
	put(t, d, "a", "")
	has(t, d, "a", "")
	put(t, d, "a", "x")
	has(t, d, "a", "x")
	put(t, d, "a", "yz", "b", "\x00\xff", "a", "")
	has(t, d, "a", "xyz", "b", "\x00\xff")
	answers(t, "Append of nil", d.Append("c", nil), api.OK)
	has(t, d, "a", "xyz", "b", "\x00\xff", "c", "")
	lasts(t, d, "a", "", "b", "", "c", "")
}

// What stands behind bytes that last is loose.
func TestAppendBehindSynced(t *testing.T) {
	d := synced(t, 20, "a", "xyz")
	put(t, d, "a", "uvw")
	has(t, d, "a", "xyzuvw")
	lasts(t, d, "a", "xyz")
}

// A name that may not be is told ahead of a room that is too small.
func TestAppendFirstError(t *testing.T) {
	d := New(2)
	answers(t, "no name, too much", d.Append("", []byte("xyz")), api.ErrArg)
	answers(t, "too long a name, too much", d.Append(strings.Repeat("n", 33), []byte("xyz")), api.ErrArg)
	answers(t, "too much", d.Append(strings.Repeat("n", 32), []byte("xyz")), api.ErrFull)
	has(t, d)
}

func TestSync(t *testing.T) {
	d := New(20)
	answers(t, "Sync of none", d.Sync("a"), api.ErrFile)
	has(t, d)
	put(t, d, "a", "xyz", "b", "uvw")
	answers(t, "Sync", d.Sync("a"), api.OK)
	answers(t, "Sync of none", d.Sync("c"), api.ErrFile)
	has(t, d, "a", "xyz", "b", "uvw")
	lasts(t, d, "a", "xyz", "b", "")
	answers(t, "Sync of nothing", d.Sync("b"), api.OK)
	answers(t, "Sync once more", d.Sync("a"), api.OK)
	lasts(t, d, "a", "xyz", "b", "")
}

func TestCut(t *testing.T) {
	d := New(20)
	for _, n := range []int{math.MinInt, -1, 0, 1, math.MaxInt} {
		answers(t, "Cut of none", d.Cut("a", n), api.ErrFile)
	}
	for n := -2; n < 8; n++ {
		d := synced(t, 20, "a", "xyz", "b", "uvw")
		put(t, d, "a", "12")
		if n < 0 || n > 5 {
			answers(t, "Cut beyond", d.Cut("a", n), api.ErrArg)
			has(t, d, "a", "xyz12", "b", "uvw")
			lasts(t, d, "a", "xyz", "b", "uvw")
			continue
		}
		answers(t, "Cut", d.Cut("a", n), api.OK)
		has(t, d, "a", "xyz12"[:n], "b", "uvw")
		lasts(t, d, "a", "xyz12"[:min(n, 3)], "b", "uvw")
	}
	d = synced(t, 20, "a", "xyz")
	answers(t, "Cut of the least", d.Cut("a", math.MinInt), api.ErrArg)
	answers(t, "Cut of the most", d.Cut("a", math.MaxInt), api.ErrArg)
	has(t, d, "a", "xyz")
}

// What comes behind a Cut is loose, also where bytes stood that lasted.
func TestCutAndAppend(t *testing.T) {
	d := synced(t, 20, "a", "xyz")
	answers(t, "Cut", d.Cut("a", 1), api.OK)
	put(t, d, "a", "uv")
	has(t, d, "a", "xuv")
	d.Crash(1)
	d.Start()
	has(t, d, "a", "xu")
	answers(t, "Cut at 0", d.Cut("a", 0), api.OK)
	put(t, d, "a", "12345")
	has(t, d, "a", "12345")
	lasts(t, d, "a", "")
}

func TestRename(t *testing.T) {
	long := strings.Repeat("n", 33)
	d := synced(t, 20, "a", "xyz")
	put(t, d, "a", "12")
	for _, to := range []string{"a", "b", "c", "", long} {
		answers(t, "Rename from none", d.Rename("b", to), api.ErrFile)
	}
	answers(t, "Rename to no name", d.Rename("a", ""), api.ErrArg)
	answers(t, "Rename to too long a name", d.Rename("a", long), api.ErrArg)
	has(t, d, "a", "xyz12")
	answers(t, "Rename", d.Rename("a", long[1:]), api.OK)
	has(t, d, long[1:], "xyz12")
	answers(t, "Rename once more", d.Rename("a", "c"), api.ErrFile)
	answers(t, "Rename back", d.Rename(long[1:], "c"), api.OK)
	has(t, d, "c", "xyz12")
	lasts(t, d, "c", "xyz")
}

func TestRenameToItself(t *testing.T) {
	d := synced(t, 20, "a", "xyz")
	put(t, d, "a", "12", "b", "u")
	answers(t, "Rename", d.Rename("a", "a"), api.OK)
	has(t, d, "a", "xyz12", "b", "u")
	d.Crash(1)
	d.Start()
	has(t, d, "a", "xyz1", "b", "")
}

// The file that takes a name brings what of it lasts, and nothing of the other one.
func TestRenameOver(t *testing.T) {
	d := synced(t, 20, "a", "xyz", "b", "uvwxyz")
	put(t, d, "a", "12")
	answers(t, "Rename", d.Rename("a", "b"), api.OK)
	has(t, d, "b", "xyz12")
	lasts(t, d, "b", "xyz")

	d = synced(t, 20, "a", "x", "b", "uvw")
	put(t, d, "c", "12345")
	answers(t, "Rename of a loose one", d.Rename("c", "b"), api.OK)
	has(t, d, "a", "x", "b", "12345")
	lasts(t, d, "a", "x", "b", "")

	d = synced(t, 20, "a", "x", "c", "12345")
	put(t, d, "b", "uvw")
	answers(t, "Rename over a loose one", d.Rename("c", "b"), api.OK)
	lasts(t, d, "a", "x", "b", "12345")
}

func TestRemove(t *testing.T) {
	d := synced(t, 20, "a", "xyz", "b", "")
	put(t, d, "c", "12")
	answers(t, "Remove of none", d.Remove("d"), api.ErrFile)
	answers(t, "Remove", d.Remove("a"), api.OK)
	has(t, d, "b", "", "c", "12")
	answers(t, "Remove once more", d.Remove("a"), api.ErrFile)
	_, err := d.Read("a")
	answers(t, "Read", err, api.ErrFile)
	answers(t, "Remove of a loose one", d.Remove("c"), api.OK)
	lasts(t, d, "b", "")
	answers(t, "Remove of an empty one", d.Remove("b"), api.OK)
	has(t, d)
	lasts(t, d)
}

// A file that is made anew has nothing of the one that was.
func TestRemoveAndAppend(t *testing.T) {
	d := synced(t, 20, "a", "xyz")
	answers(t, "Remove", d.Remove("a"), api.OK)
	put(t, d, "a", "1")
	has(t, d, "a", "1")
	lasts(t, d, "a", "")
}

// Cut, Rename and Remove are done at once, for ever: no fall takes them back.
func TestForEver(t *testing.T) {
	for keep := range uint64(8) {
		d := synced(t, 20, "a", "xyz", "b", "uvw", "c", "123")
		answers(t, "Cut", d.Cut("a", 2), api.OK)
		answers(t, "Rename", d.Rename("b", "d"), api.OK)
		answers(t, "Remove", d.Remove("c"), api.OK)
		d.Crash(keep)
		d.Start()
		has(t, d, "a", "xy", "d", "uvw")
	}
}
