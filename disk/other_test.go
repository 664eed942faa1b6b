package disk

import (
	"cmp"
	"fmt"
	"math"
	"slices"
	"strings"
	"testing"

	"scriptorium/api"
)

// call is one of a disk's calls, and what it is handed.
type call struct {
	what, name, text string
	n                int
	keep             uint64
}

// power is what Disk and another reading of it have.
type power interface {
	Arm(after int, keep uint64)
	Crash(keep uint64)
	Start()
	Up() bool
	Falls() int
	Append(name string, b []byte) api.Errno
	Sync(name string) api.Errno
	Cut(name string, n int) api.Errno
	Rename(from, to string) api.Errno
	Remove(name string) api.Errno
	Read(name string) ([]byte, api.Errno)
	Files() []string
	Used() int
}

func do(d power, c call) api.Errno {
	switch c.what {
	case "arm":
		d.Arm(c.n, c.keep)
	case "crash":
		d.Crash(c.keep)
	case "start":
		d.Start()
	case "append":
		return d.Append(c.name, []byte(c.text))
	case "sync":
		return d.Sync(c.name)
	case "cut":
		return d.Cut(c.name, c.n)
	case "rename":
		return d.Rename(c.name, c.text)
	case "remove":
		return d.Remove(c.name)
	}
	return api.OK
}

// told is what a call answers, and all that is told behind it.
func told(d power, c call) string {
	var b strings.Builder
	fmt.Fprint(&b, do(d, c), d.Up(), d.Falls(), d.Used())
	for _, name := range append(d.Files(), "a", "none", "") {
		bytes, err := d.Read(name)
		fmt.Fprintf(&b, " %q %q %d", name, bytes, err)
	}
	return b.String()
}

func toldRow(d power, row []call) []string {
	var l []string
	for _, c := range row {
		l = append(l, told(d, c))
	}
	return l
}

// otherFile is one as two texts: what lasts, what is loose.
type otherFile struct{ name, firm, loose string }

// other is a disk read once more: its files are a list by rising names, which each deed makes anew; a fuse is what Arm said.
type other struct {
	room, falls int
	off         bool
	files       []otherFile
	fuse        *fuse
}

type fuse struct {
	left int
	keep uint64
}

func (o *other) Arm(after int, keep uint64) {
	switch {
	case o.off:
	case after < 0:
		o.fuse = nil
	default:
		o.fuse = &fuse{after, keep}
	}
}

func (o *other) Crash(keep uint64) {
	if o.off {
		return
	}
	for i := range o.files {
		f := &o.files[i]
		part := keep / uint64(i+1)
		stay := part % uint64(len(f.loose)+1)
		f.firm, f.loose = f.firm+f.loose[:stay], ""
	}
	o.off, o.fuse = true, nil
	o.falls++
}

func (o *other) Start()     { o.off, o.fuse = false, nil }
func (o *other) Up() bool   { return !o.off }
func (o *other) Falls() int { return o.falls }

func (o *other) Files() []string {
	var l []string
	if !o.off {
		for _, f := range o.files {
			l = append(l, f.name)
		}
	}
	return l
}

func (o *other) Used() int {
	used := 0
	for _, name := range o.Files() {
		b, _ := o.Read(name)
		used += len(b)
	}
	return used
}

func (o *other) Read(name string) ([]byte, api.Errno) {
	f, err := o.one(name)
	if err != api.OK {
		return nil, err
	}
	return []byte(f.firm + f.loose), api.OK
}

func (o *other) one(name string) (otherFile, api.Errno) {
	if o.off {
		return otherFile{}, api.ErrOff
	}
	for _, f := range o.files {
		if f.name == name {
			return f, api.OK
		}
	}
	return otherFile{}, api.ErrFile
}

// but is the list without the files of these names, and with others.
func (o *other) but(names []string, with ...otherFile) []otherFile {
	l := slices.Clone(with)
	for _, f := range o.files {
		if !slices.Contains(names, f.name) {
			l = append(l, f)
		}
	}
	slices.SortFunc(l, func(a, b otherFile) int { return cmp.Compare(a.name, b.name) })
	return l
}

// deed ends a call: with the files as done, or, where power fails, as torn.
func (o *other) deed(done, torn []otherFile) api.Errno {
	o.files = done
	if o.fuse == nil {
		return api.OK
	}
	if o.fuse.left > 0 {
		o.fuse.left--
		return api.OK
	}
	o.files = torn
	o.Crash(o.fuse.keep)
	return api.ErrOff
}

func (o *other) Append(name string, b []byte) api.Errno {
	f, err := o.one(name)
	if err == api.ErrOff {
		return err
	}
	if name == "" || len(name) >= 33 {
		return api.ErrArg
	}
	if o.Used()+len(b) > o.room {
		return api.ErrFull
	}
	f.name = name
	f.loose += string(b)
	there := o.but([]string{name}, f)
	return o.deed(there, there)
}

func (o *other) Sync(name string) api.Errno {
	f, err := o.one(name)
	if err != api.OK {
		return err
	}
	return o.deed(o.but([]string{name}, otherFile{name, f.firm + f.loose, ""}), o.files)
}

func (o *other) Cut(name string, n int) api.Errno {
	f, err := o.one(name)
	if err != api.OK {
		return err
	}
	if n < 0 || len(f.firm)+len(f.loose) < n {
		return api.ErrArg
	}
	if n <= len(f.firm) {
		f.firm, f.loose = f.firm[:n], ""
	} else {
		f.loose = f.loose[:n-len(f.firm)]
	}
	return o.deed(o.but([]string{name}, f), o.files)
}

func (o *other) Rename(from, to string) api.Errno {
	f, err := o.one(from)
	if err != api.OK {
		return err
	}
	if to == "" || len(to) >= 33 {
		return api.ErrArg
	}
	f.name = to
	return o.deed(o.but([]string{from, to}, f), o.files)
}

func (o *other) Remove(name string) api.Errno {
	_, err := o.one(name)
	if err != api.OK {
		return err
	}
	return o.deed(o.but([]string{name}), o.files)
}

// checkRow holds a row of calls against the other reading, call by call.
func checkRow(t *testing.T, room int, row []call) {
	t.Helper()
	d, o := New(room), &other{room: max(room, 0)}
	for i, c := range row {
		got, want := told(d, c), told(o, c)
		if got != want {
			t.Fatalf("room %d, %+v: %s, not %s", room, row[:i+1], got, want)
		}
	}
}

// fewCalls are such as short rows are made of.
var fewCalls = []call{
	{what: "append", name: "a", text: "xyz"},
	{what: "append", name: "b", text: "uv"},
	{what: "append", name: "b"},
	{what: "append", name: "", text: "x"},
	{what: "sync", name: "a"},
	{what: "sync", name: "b"},
	{what: "cut", name: "a", n: 2},
	{what: "cut", name: "b", n: 0},
	{what: "rename", name: "a", text: "b"},
	{what: "rename", name: "b", text: "a"},
	{what: "rename", name: "a", text: "a"},
	{what: "rename", name: "a"},
	{what: "remove", name: "a"},
	{what: "arm", n: 0, keep: 3},
	{what: "arm", n: 1, keep: 2},
	{what: "arm", n: -1},
	{what: "crash", keep: 1},
	{what: "start"},
}

func TestShortRows(t *testing.T) {
	for _, room := range []int{0, 5, 7} {
		for _, a := range fewCalls {
			for _, b := range fewCalls {
				for _, c := range fewCalls {
					checkRow(t, room, []call{a, b, c})
				}
			}
		}
	}
}

// All rows of three behind calls that put something there.
func TestShortRowsOfFiles(t *testing.T) {
	begin := []call{fewCalls[0], fewCalls[4], fewCalls[0], fewCalls[1]}
	for _, a := range fewCalls {
		for _, b := range fewCalls {
			for _, c := range fewCalls {
				checkRow(t, 12, append(begin[:4:4], a, b, c, call{what: "start"}, call{what: "crash", keep: 2}, call{what: "start"}))
			}
		}
	}
}

// draws are numbers without an order to be seen, the same ones from the same start.
func draws(start int) func(n int) int {
	x := uint64(start)*2654435761 + 12345
	return func(n int) int {
		x = x*6364136223846793005 + 1442695040888963407
		return int((x >> 33) % uint64(n))
	}
}

// longRow is a row of calls of all kinds, most of which can be done.
func longRow(start, size int) []call {
	draw := draws(start)
	names := []string{"a", "b", "c", "ab", "B", "\xff", strings.Repeat("n", 32), "a", "b", "", strings.Repeat("n", 33)}
	kinds := []string{"append", "append", "append", "append", "sync", "sync", "cut", "cut", "rename", "remove", "arm", "crash", "start", "start", "start"}
	var row []call
	for i := range size {
		c := call{what: kinds[draw(len(kinds))], name: names[draw(len(names))]}
		c.keep = uint64(draw(100))
		if draw(10) == 0 {
			c.keep = math.MaxUint64 - c.keep
		}
		switch c.what {
		case "append":
			c.text = strings.Repeat(string(rune('a'+i%26)), draw(8))
		case "rename":
			c.text = names[draw(len(names))]
		default:
			c.n = draw(9) - 1
		}
		row = append(row, c)
	}
	return row
}

func TestLongRows(t *testing.T) {
	for start := range 1000 {
		checkRow(t, start%80-1, longRow(start, 100))
	}
}
