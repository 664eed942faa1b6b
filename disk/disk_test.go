package disk

import (
	"math"
	"slices"
	"strings"
	"testing"

	"scriptorium/api"
)

// answers checks what a call answered.
func answers(t *testing.T, what string, got, want api.Errno) {
	t.Helper()
	if got != want {
		t.Errorf("%s: %d, not %d", what, got, want)
	}
}

// has checks that a disk is up and has these files alone, by rising names: a name, its bytes, a name, its bytes.
func has(t *testing.T, d *Disk, want ...string) {
	t.Helper()
	if !d.Up() {
		t.Error("it is not up")
	}
	var got []string
	used := 0
	for _, name := range d.Files() {
		b, err := d.Read(name)
		answers(t, "Read of "+name, err, api.OK)
		got = append(got, name, string(b))
		used += len(b)
	}
	if !slices.Equal(got, want) {
		t.Errorf("it has %.200q, not %.200q", got, want)
	}
	if d.Used() != used {
		t.Errorf("used are %d, not %d", d.Used(), used)
	}
}

// lasts checks what is there behind a fall of which nothing loose stays.
func lasts(t *testing.T, d *Disk, want ...string) {
	t.Helper()
	d.Crash(0)
	d.Start()
	has(t, d, want...)
}

// put appends texts to files: a name, its bytes, a name, its bytes.
func put(t *testing.T, d *Disk, files ...string) {
	t.Helper()
	for i := 0; i < len(files); i += 2 {
		answers(t, "Append to "+files[i], d.Append(files[i], []byte(files[i+1])), api.OK)
	}
}

// synced is a disk with files that last.
func synced(t *testing.T, room int, files ...string) *Disk {
	t.Helper()
	d := New(room)
	put(t, d, files...)
	for i := 0; i < len(files); i += 2 {
		answers(t, "Sync of "+files[i], d.Sync(files[i]), api.OK)
	}
	return d
}

func TestExample(t *testing.T) {
	d := New(10)
	answers(t, "Append(a, xyz)", d.Append("a", []byte("xyz")), api.OK)
	answers(t, "Sync(a)", d.Sync("a"), api.OK)
	answers(t, "Append(a, uvw)", d.Append("a", []byte("uvw")), api.OK)
	d.Crash(2)
	d.Start()
	has(t, d, "a", "xyzuv")
	answers(t, "Append of six bytes", d.Append("b", []byte("123456")), api.ErrFull)
	has(t, d, "a", "xyzuv")
	d.Arm(1, 0)
	answers(t, "Append(b, 1)", d.Append("b", []byte("1")), api.OK)
	answers(t, "Sync(b)", d.Sync("b"), api.ErrOff)
	b, err := d.Read("b")
	answers(t, "Read(b)", err, api.ErrOff)
	if len(b) != 0 {
		t.Errorf("beside the error: %q", b)
	}
	d.Start()
	has(t, d, "a", "xyzuv", "b", "")
}

func TestNew(t *testing.T) {
	for _, room := range []int{math.MinInt, -1, 0, 1, 100, math.MaxInt} {
		d := New(room)
		has(t, d)
		if d.Falls() != 0 {
			t.Errorf("New(%d): falls %d", room, d.Falls())
		}
	}
}

// Of a room below 0 and of 0 there is none; only what would be more than the room is refused.
func TestRoom(t *testing.T) {
	for _, room := range []int{math.MinInt, -1, 0} {
		d := New(room)
		answers(t, "Append of a byte", d.Append("a", []byte("x")), api.ErrFull)
		has(t, d)
		put(t, d, "a", "")
		has(t, d, "a", "")
		answers(t, "Append of a byte", d.Append("a", []byte("x")), api.ErrFull)
		lasts(t, d, "a", "")
	}
	for room := 1; room < 40; room++ {
		text := strings.Repeat("x", room)
		d := New(room)
		answers(t, "Append of one too many", d.Append("a", []byte(text+"x")), api.ErrFull)
		has(t, d)
		put(t, d, "a", text)
		has(t, d, "a", text)
		answers(t, "Append of one more", d.Append("a", []byte("x")), api.ErrFull)
		answers(t, "Append of one more", d.Append("b", []byte("x")), api.ErrFull)
		put(t, d, "a", "", "b", "")
		has(t, d, "a", text, "b", "")
	}
	put(t, New(math.MaxInt), "a", "x", "b", "y", "a", "z")
}

// The room is that of all files together; what is no more leaves its room to others.
func TestRoomAgain(t *testing.T) {
	full := func() *Disk {
		d := New(6)
		put(t, d, "a", "xyz")
		answers(t, "Sync", d.Sync("a"), api.OK)
		put(t, d, "b", "uv", "c", "w")
		answers(t, "Append to a full disk", d.Append("d", []byte("1")), api.ErrFull)
		return d
	}
	for _, c := range []struct {
		what string
		do   func(d *Disk)
		free int
		left []string
	}{
		{"Cut", func(d *Disk) { d.Cut("a", 1) }, 2, []string{"a", "x", "b", "uv", "c", "w"}},
		{"Cut at 0", func(d *Disk) { d.Cut("a", 0) }, 3, []string{"a", "", "b", "uv", "c", "w"}},
		{"Cut of nothing", func(d *Disk) { d.Cut("a", 3) }, 0, []string{"a", "xyz", "b", "uv", "c", "w"}},
		{"Remove", func(d *Disk) { d.Remove("b") }, 2, []string{"a", "xyz", "c", "w"}},
		{"Rename over another one", func(d *Disk) { d.Rename("c", "a") }, 3, []string{"a", "w", "b", "uv"}},
		{"Rename", func(d *Disk) { d.Rename("c", "e") }, 0, []string{"a", "xyz", "b", "uv", "e", "w"}},
		{"Rename to its own name", func(d *Disk) { d.Rename("a", "a") }, 0, []string{"a", "xyz", "b", "uv", "c", "w"}},
		{"a fall", func(d *Disk) { d.Crash(0); d.Start() }, 3, []string{"a", "xyz", "b", "", "c", ""}},
		{"a fall that keeps some", func(d *Disk) { d.Crash(3); d.Start() }, 1, []string{"a", "xyz", "b", "u", "c", "w"}},
		{"a deed that fails", func(d *Disk) { d.Arm(0, 2); d.Remove("a"); d.Start() }, 2, []string{"a", "xyz", "b", "u", "c", ""}},
	} {
		d := full()
		c.do(d)
		has(t, d, c.left...)
		answers(t, c.what+": one too many", d.Append("d", make([]byte, c.free+1)), api.ErrFull)
		has(t, d, c.left...)
		answers(t, c.what+": just enough", d.Append("zz", make([]byte, c.free)), api.OK)
		has(t, d, append(c.left, "zz", string(make([]byte, c.free)))...)
	}
}

func TestNames(t *testing.T) {
	most, more := strings.Repeat("n", 32), strings.Repeat("n", 33)
	for _, name := range []string{"", more, more + more, strings.Repeat("ä", 17)} {
		d := synced(t, 100, "a", "x")
		answers(t, "Append of nothing", d.Append(name, nil), api.ErrArg)
		answers(t, "Append", d.Append(name, []byte("y")), api.ErrArg)
		answers(t, "Rename", d.Rename("a", name), api.ErrArg)
		answers(t, "Rename from it", d.Rename(name, "a"), api.ErrFile)
		answers(t, "Rename from it to it", d.Rename(name, name), api.ErrFile)
		answers(t, "Sync", d.Sync(name), api.ErrFile)
		answers(t, "Cut", d.Cut(name, 0), api.ErrFile)
		answers(t, "Remove", d.Remove(name), api.ErrFile)
		b, err := d.Read(name)
		answers(t, "Read", err, api.ErrFile)
		if len(b) != 0 {
			t.Errorf("Read(%q) beside an error: %q", name, b)
		}
		has(t, d, "a", "x")
	}
	for _, name := range []string{"a", most, strings.Repeat("n", 31), strings.Repeat("ä", 16), " ", "a/b", "..", "\x00", "\xff\xfe", "a\n"} {
		d := New(100)
		put(t, d, name, "x")
		has(t, d, name, "x")
		answers(t, "Rename", d.Rename(name, "other"), api.OK)
		answers(t, "Rename back", d.Rename("other", name), api.OK)
		has(t, d, name, "x")
		answers(t, "Sync", d.Sync(name), api.OK)
		lasts(t, d, name, "x")
		answers(t, "Remove", d.Remove(name), api.OK)
		has(t, d)
	}
	for c := range 256 {
		name := string([]byte{byte(c)})
		d := New(100)
		put(t, d, name, "x", name+name, "y")
		has(t, d, name, "x", name+name, "y")
	}
}

// Names rise byte by byte, however the files came.
func TestFilesRise(t *testing.T) {
	rising := []string{"\x00", "A", "B", "a", "a\x00", "a.", "aa", "aä", "b", strings.Repeat("b", 32), "log.000001", "log.000010", "log.1", "ä", "\xff"}
	for shift := range rising {
		d := New(100)
		var want []string
		for i := range rising {
			at := (i*7 + shift) % len(rising)
			put(t, d, rising[at], string(rune('a'+at)))
		}
		for i, name := range rising {
			want = append(want, name, string(rune('a'+i)))
		}
		has(t, d, want...)
		if !slices.Equal(d.Files(), rising) {
			t.Errorf("Files: %q", d.Files())
		}
	}
}

// While a disk is not up nothing is told, and nothing is done, whatever is asked.
func TestNotUp(t *testing.T) {
	d := synced(t, 10, "a", "xyz", "b", "uv")
	d.Crash(0)
	for range 2 {
		if d.Up() || len(d.Files()) != 0 || d.Used() != 0 || d.Falls() != 1 {
			t.Errorf("not up: %v, %q, %d, %d", d.Up(), d.Files(), d.Used(), d.Falls())
		}
		for _, name := range []string{"a", "b", "c", "", strings.Repeat("n", 33)} {
			b, err := d.Read(name)
			answers(t, "Read", err, api.ErrOff)
			if len(b) != 0 {
				t.Errorf("Read: %q", b)
			}
			answers(t, "Append", d.Append(name, []byte("w")), api.ErrOff)
			answers(t, "Append of too much", d.Append(name, make([]byte, 11)), api.ErrOff)
			answers(t, "Sync", d.Sync(name), api.ErrOff)
			for _, n := range []int{-1, 0, 1, 3, 4} {
				answers(t, "Cut", d.Cut(name, n), api.ErrOff)
			}
			for _, to := range []string{"a", "b", "c", "", strings.Repeat("n", 33)} {
				answers(t, "Rename", d.Rename(name, to), api.ErrOff)
			}
			answers(t, "Remove", d.Remove(name), api.ErrOff)
		}
	}
	d.Start()
	has(t, d, "a", "xyz", "b", "uv")
}
