package disk

import (
	"math"
	"strings"
	"testing"

	"scriptorium/api"
)

// deeds can each be done on a disk of synced(t, 100, "a", "xyz"), again and again.
func deeds() map[string]func(d *Disk) api.Errno {
	return map[string]func(d *Disk) api.Errno{
		"Append":                 func(d *Disk) api.Errno { return d.Append("b", []byte("u")) },
		"Append of nothing":      func(d *Disk) api.Errno { return d.Append("a", nil) },
		"Sync":                   func(d *Disk) api.Errno { return d.Sync("a") },
		"Cut of nothing":         func(d *Disk) api.Errno { return d.Cut("a", 3) },
		"Rename to its own name": func(d *Disk) api.Errno { return d.Rename("a", "a") },
	}
}

// noDeeds answer errors on such a disk.
func noDeeds(t *testing.T, d *Disk) {
	t.Helper()
	long := strings.Repeat("n", 33)
	answers(t, "Append to no name", d.Append("", nil), api.ErrArg)
	answers(t, "Append to too long a name", d.Append(long, nil), api.ErrArg)
	answers(t, "Append of too much", d.Append("a", make([]byte, 101)), api.ErrFull)
	answers(t, "Sync of none", d.Sync("c"), api.ErrFile)
	answers(t, "Cut of none", d.Cut("c", 0), api.ErrFile)
	answers(t, "Cut below 0", d.Cut("a", -1), api.ErrArg)
	answers(t, "Cut beyond the end", d.Cut("a", 4), api.ErrArg)
	answers(t, "Rename of none", d.Rename("c", "d"), api.ErrFile)
	answers(t, "Rename to no name", d.Rename("a", ""), api.ErrArg)
	answers(t, "Rename to too long a name", d.Rename("a", long), api.ErrArg)
	answers(t, "Remove of none", d.Remove("c"), api.ErrFile)
}

// fallsAt checks that power fails at the deed behind so many others.
func fallsAt(t *testing.T, d *Disk, what string, after int, do func(d *Disk) api.Errno) {
	t.Helper()
	falls := d.Falls()
	for range after {
		noDeeds(t, d)
		answers(t, what, do(d), api.OK)
		if !d.Up() || d.Falls() != falls {
			t.Errorf("%s: it fell too early", what)
		}
	}
	noDeeds(t, d)
	answers(t, what, do(d), api.ErrOff)
	if d.Up() || d.Falls() != falls+1 {
		t.Errorf("%s: it is up %v, falls %d", what, d.Up(), d.Falls())
	}
}

// neverFalls checks that a disk is not armed.
func neverFalls(t *testing.T, d *Disk) {
	t.Helper()
	falls := d.Falls()
	for range 20 {
		for what, do := range deeds() {
			answers(t, what, do(d), api.OK)
		}
	}
	if !d.Up() || d.Falls() != falls {
		t.Errorf("it is up %v, falls %d", d.Up(), d.Falls())
	}
}

func TestArm(t *testing.T) {
	for what, do := range deeds() {
		for after := range 7 {
			d := synced(t, 100, "a", "xyz")
			d.Arm(after, 0)
			fallsAt(t, d, what, after, do)
		}
	}
}

// Each kind of a deed counts as one.
func TestArmCountsAll(t *testing.T) {
	row := []func(d *Disk) api.Errno{
		func(d *Disk) api.Errno { return d.Append("b", []byte("uv")) },
		func(d *Disk) api.Errno { return d.Sync("b") },
		func(d *Disk) api.Errno { return d.Cut("b", 1) },
		func(d *Disk) api.Errno { return d.Rename("b", "c") },
		func(d *Disk) api.Errno { return d.Rename("c", "c") },
		func(d *Disk) api.Errno { return d.Remove("c") },
		func(d *Disk) api.Errno { return d.Append("c", nil) },
		func(d *Disk) api.Errno { return d.Rename("c", "a") },
	}
	for after := range row {
		d := synced(t, 100, "a", "xyz")
		d.Arm(after, 0)
		for i, do := range row {
			want := api.OK
			if i >= after {
				want = api.ErrOff
			}
			answers(t, "deed by deed", do(d), want)
		}
		if d.Up() || d.Falls() != 1 {
			t.Errorf("Arm(%d): up %v, falls %d", after, d.Up(), d.Falls())
		}
	}
}

// What tells of a disk is no deed.
func TestArmTellingIsNoDeed(t *testing.T) {
	d := synced(t, 100, "a", "xyz")
	d.Arm(0, 0)
	for range 5 {
		has(t, d, "a", "xyz")
		_, err := d.Read("c")
		answers(t, "Read of none", err, api.ErrFile)
	}
	answers(t, "Remove", d.Remove("a"), api.ErrOff)
}

// Below 0 power does not fail at all; whatever was said earlier is forgotten.
func TestArmBelowNought(t *testing.T) {
	for _, after := range []int{-1, -2, -1000, math.MinInt} {
		d := synced(t, 100, "a", "xyz")
		d.Arm(after, 1)
		neverFalls(t, d)
		d.Arm(0, 1)
		d.Arm(after, 1)
		neverFalls(t, d)
	}
	d := synced(t, 200, "a", "xyz")
	d.Arm(math.MaxInt, 1)
	neverFalls(t, d)
	neverFalls(t, d)
}

// The last Arm holds, with its number and its keep, counted from then on.
func TestArmTwice(t *testing.T) {
	grow := func(d *Disk) api.Errno { return d.Append("b", []byte("uvw")) }
	for first := range 4 {
		for second := range 4 {
			d := synced(t, 100, "a", "xyz")
			d.Arm(first, 0)
			for range min(first, 2) {
				answers(t, "Sync", d.Sync("a"), api.OK)
			}
			d.Arm(second, 4)
			fallsAt(t, d, "Append", second, grow)
			d.Start()
			has(t, d, "a", "xyz", "b", "uv")
		}
	}
}

// Behind a fall, and while it is not up, a disk is not armed.
func TestArmNotUp(t *testing.T) {
	d := synced(t, 100, "a", "xyz")
	d.Crash(0)
	d.Arm(0, 0)
	d.Start()
	neverFalls(t, d)

	d = synced(t, 100, "a", "xyz")
	d.Arm(0, 0)
	d.Crash(0)
	d.Arm(3, 0)
	d.Start()
	neverFalls(t, d)

	d = synced(t, 100, "a", "xyz")
	d.Arm(0, 0)
	answers(t, "Sync", d.Sync("a"), api.ErrOff)
	d.Start()
	neverFalls(t, d)
	d.Arm(1, 0)
	fallsAt(t, d, "Sync", 1, func(d *Disk) api.Errno { return d.Sync("a") })
}

// Start of a disk that is up: it is not armed any more, and nothing else.
func TestStartWhileUp(t *testing.T) {
	d := synced(t, 100, "a", "xyz")
	put(t, d, "a", "12", "b", "uv")
	d.Arm(0, 0)
	d.Start()
	if !d.Up() || d.Falls() != 0 {
		t.Errorf("up %v, falls %d", d.Up(), d.Falls())
	}
	has(t, d, "a", "xyz12", "b", "uv")
	answers(t, "Cut of nothing", d.Cut("b", 2), api.OK)
	answers(t, "Rename", d.Rename("b", "c"), api.OK)
	lasts(t, d, "a", "xyz", "c", "")
	d.Start()
	d.Start()
	neverFalls(t, d)
}

// An Append at which power fails has put its bytes there, loose: so many of them stay, and last.
func TestAppendFails(t *testing.T) {
	for keep := range uint64(12) {
		d := synced(t, 100, "a", "xyz")
		put(t, d, "a", "12")
		d.Arm(0, keep)
		answers(t, "Append", d.Append("a", []byte("uv")), api.ErrOff)
		d.Start()
		stays := "xyz12uv"[:3+keep%5]
		has(t, d, "a", stays)
		lasts(t, d, "a", stays)
	}
}

// So is a file made by it, which counts among the names.
func TestAppendMakesAndFails(t *testing.T) {
	for keep := range uint64(12) {
		d := synced(t, 100, "c", "xyz")
		put(t, d, "c", "12")
		d.Arm(0, keep)
		answers(t, "Append", d.Append("b", []byte("uvw")), api.ErrOff)
		d.Start()
		has(t, d, "b", "uvw"[:keep%4], "c", "xyz12"[:3+keep/2%3])
	}
	d := New(0)
	d.Arm(0, 5)
	answers(t, "Append of too much", d.Append("a", []byte("u")), api.ErrFull)
	answers(t, "Append of nothing", d.Append("a", nil), api.ErrOff)
	d.Start()
	has(t, d, "a", "")
}

// Any other deed at which power fails is not done.
func TestOthersFail(t *testing.T) {
	for what, do := range map[string]func(d *Disk) api.Errno{
		"Sync":                    func(d *Disk) api.Errno { return d.Sync("a") },
		"Cut at 0":                func(d *Disk) api.Errno { return d.Cut("a", 0) },
		"Cut":                     func(d *Disk) api.Errno { return d.Cut("a", 4) },
		"Cut of nothing":          func(d *Disk) api.Errno { return d.Cut("a", 5) },
		"Rename":                  func(d *Disk) api.Errno { return d.Rename("a", "c") },
		"Rename over another one": func(d *Disk) api.Errno { return d.Rename("a", "b") },
		"Rename over it":          func(d *Disk) api.Errno { return d.Rename("b", "a") },
		"Rename to its own name":  func(d *Disk) api.Errno { return d.Rename("a", "a") },
		"Remove":                  func(d *Disk) api.Errno { return d.Remove("a") },
	} {
		for keep := range uint64(8) {
			d := synced(t, 100, "a", "xyz")
			put(t, d, "a", "12", "b", "uvw")
			d.Arm(0, keep)
			answers(t, what, do(d), api.ErrOff)
			if d.Up() || d.Falls() != 1 {
				t.Errorf("%s: up %v, falls %d", what, d.Up(), d.Falls())
			}
			d.Start()
			has(t, d, "a", "xyz12"[:3+keep%3], "b", "uvw"[:keep/2%4])
		}
	}
}
