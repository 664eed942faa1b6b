package wal

import (
	"encoding/binary"
	"fmt"
	"hash/crc32"
	"regexp"
	"slices"
	"strconv"
	"strings"
	"testing"

	"scriptorium/api"
	"scriptorium/disk"
)

// other is a log read once more: texts from a first number on, and at which of them segments begin; how long these are is worked out anew each time. Its deeds are listed ahead of being done.
type other struct {
	d      *disk.Disk
	begins []int
	all    []string
}

func nameOf(number int) string { return fmt.Sprintf("log.%06d", number) }

func (o *other) first() int { return o.begins[0] }
func (o *other) last() int  { return o.first() + len(o.all) - 1 }
func (o *other) end() int   { return o.begins[len(o.begins)-1] }

// bytesTo is how many bytes the records have that stand in one segment, from a number on and below another.
func (o *other) bytesTo(from, to int) int {
	n := 0
	for i := from; i < to; i++ {
		n += 8 + len(o.all[i-o.first()])
	}
	return n
}

var segmentName = regexp.MustCompile(`^log\.([0-9]{6})$`)

// readOther is Open; nil beside an error.
func readOther(d *disk.Disk) (*other, api.Errno) {
	o := &other{d: d}
	for _, name := range d.Files() {
		if m := segmentName.FindStringSubmatch(name); m != nil && m[1] != "000000" {
			n, _ := strconv.Atoi(m[1])
			o.begins = append(o.begins, n)
		}
	}
	if len(o.begins) == 0 {
		o.begins = []int{1}
		return o, d.Append("log.000001", nil)
	}
	var deeds []deed
	for k, n := range o.begins {
		if n != o.last()+1 {
			return nil, api.ErrBad
		}
		b, _ := d.Read(nameOf(n))
		texts, whole := unframed(n, b)
		o.all = append(o.all, texts...)
		switch {
		case o.last() > 999999:
			return nil, api.ErrBad
		case whole == len(b):
		case k < len(o.begins)-1:
			return nil, api.ErrBad
		default:
			deeds = append(deeds, cuts(nameOf(n), whole))
		}
	}
	return o, allDone(d, append(deeds, syncs(nameOf(o.end()))))
}

// unframed are the texts whose frames stand in b, and where the last one ends.
func unframed(number int, b []byte) ([]string, int) {
	var texts []string
	at := 0
	for len(b)-at >= 8 {
		size := int(binary.LittleEndian.Uint32(b[at:]))
		if size > 8192 || at+8+size > len(b) {
			break
		}
		text := b[at+8 : at+8+size]
		sum := crc32.NewIEEE()
		binary.Write(sum, binary.LittleEndian, uint64(number+len(texts)))
		sum.Write(text)
		if sum.Sum32() != binary.LittleEndian.Uint32(b[at+4:]) {
			break
		}
		texts = append(texts, string(text))
		at += 8 + size
	}
	return texts, at
}

func (o *other) append(text string) api.Errno {
	if len(text) > 8192 {
		return api.ErrLong
	}
	if o.last() == 999999 {
		return api.ErrMany
	}
	begins := o.begins
	var deeds []deed
	if o.bytesTo(o.end(), o.last()+1) >= 2048 {
		deeds = append(deeds, syncs(nameOf(o.end())))
		begins = append(slices.Clone(begins), o.last()+1)
	}
	deeds = append(deeds, appends(nameOf(begins[len(begins)-1]), framed(o.last()+1, text)))
	err := allDone(o.d, deeds)
	if err == api.OK {
		o.begins = begins
		o.all = append(o.all, text)
	}
	return err
}

func (o *other) cut(i int) api.Errno {
	if i < o.first() || i > o.last()+1 {
		return api.ErrIndex
	}
	var deeds []deed
	left := slices.Clone(o.begins)
	for len(left) > 1 && left[len(left)-1] >= i {
		deeds = append(deeds, removes(nameOf(left[len(left)-1])))
		left = left[:len(left)-1]
	}
	end := o.last() + 1
	if len(left) < len(o.begins) {
		end = o.begins[len(left)]
	}
	if i < end {
		n := left[len(left)-1]
		deeds = append(deeds, cuts(nameOf(n), o.bytesTo(n, i)))
	}
	o.begins, o.all = left, o.all[:i-o.first()]
	return allDone(o.d, deeds)
}

func (o *other) drop(i int) api.Errno {
	var deeds []deed
	for len(o.begins) > 1 && o.begins[1] <= i {
		deeds = append(deeds, removes(nameOf(o.begins[0])))
		o.all = o.all[o.begins[1]-o.begins[0]:]
		o.begins = o.begins[1:]
	}
	return allDone(o.d, deeds)
}

func (o *other) reset(i int) api.Errno {
	if i <= 0 || i >= 1000000 {
		return api.ErrArg
	}
	var deeds []deed
	for _, n := range o.begins {
		deeds = append([]deed{removes(nameOf(n))}, deeds...)
	}
	o.begins, o.all = []int{i}, nil
	return allDone(o.d, append(deeds, appends(nameOf(i), "")))
}

// step is a call of a log, or what becomes of its disk. A number stands for one beside First or Last.
type step struct {
	what string
	n    int
	keep uint64
}

// bench is a log and another reading of it, each on a disk of its own.
type bench struct {
	t    *testing.T
	d    *disk.Disk
	l    *Log
	o    *other
	made int
	// opens tells that the log must be opened anew, as its disk's power failed.
	opens bool
}

func newBench(t *testing.T, room int, files ...string) *bench {
	b := &bench{t: t, d: disk.New(room), o: &other{d: disk.New(room)}, opens: true}
	for _, d := range []*disk.Disk{b.d, b.o.d} {
		for i := 0; i < len(files); i += 2 {
			d.Append(files[i], []byte(files[i+1]))
		}
	}
	return b
}

// do takes a step on both, and tells what each answered.
func (b *bench) do(s step) (api.Errno, api.Errno) {
	switch s.what {
	case "arm":
		b.d.Arm(s.n, s.keep)
		b.o.d.Arm(s.n, s.keep)
	case "crash":
		b.d.Crash(s.keep)
		b.o.d.Crash(s.keep)
	case "open":
		b.opens = true
	case "append":
		b.made++
		text := wide(byte(b.made), s.n)
		return b.l.Append([]byte(text)), b.o.append(text)
	case "sync":
		return b.l.Sync(), b.o.d.Sync(nameOf(b.o.end()))
	case "cut":
		return b.l.Cut(b.o.last() + s.n), b.o.cut(b.o.last() + s.n)
	case "cutfirst":
		return b.l.Cut(b.o.first() + s.n), b.o.cut(b.o.first() + s.n)
	case "drop":
		return b.l.Drop(b.o.first() + s.n), b.o.drop(b.o.first() + s.n)
	case "reset":
		return b.l.Reset(s.n), b.o.reset(s.n)
	}
	return api.OK, api.OK
}

// open opens both, starting their disks again where power fails; it tells whether there is a log.
func (b *bench) open() bool {
	for {
		b.d.Start()
		b.o.d.Start()
		var got, want api.Errno
		b.l, got = Open(b.d)
		was := b.o.d
		b.o, want = readOther(was)
		if got != want {
			b.t.Fatalf("Open: %d, not %d", got, want)
		}
		if (b.l == nil) != (got != api.OK) {
			b.t.Fatalf("Open: %v %d", b.l, got)
		}
		if got == api.OK {
			b.opens = false
			return true
		}
		if got == api.ErrBad {
			b.o = &other{d: was}
			return false
		}
	}
}

// same holds the disks, and what the logs have, against each other.
func (b *bench) same(row []step) {
	b.t.Helper()
	if b.d.Up() != b.o.d.Up() || b.d.Falls() != b.o.d.Falls() || !slices.Equal(content(b.d), content(b.o.d)) {
		b.t.Fatalf("%v: up %v, %d falls, %.400q, not %v, %d, %.400q", row, b.d.Up(), b.d.Falls(), content(b.d), b.o.d.Up(), b.o.d.Falls(), content(b.o.d))
	}
	if b.opens || !b.d.Up() {
		return
	}
	if b.l.First() != b.o.first() || b.l.Last() != b.o.last() {
		b.t.Fatalf("%v: %d to %d, not %d to %d", row, b.l.First(), b.l.Last(), b.o.first(), b.o.last())
	}
	for i := b.o.first() - 1; i <= b.o.last()+1; i++ {
		text, want := "", api.ErrIndex
		if i >= b.o.first() && i <= b.o.last() {
			text, want = b.o.all[i-b.o.first()], api.OK
		}
		if got, err := b.l.Get(i); err != want || string(got) != text {
			b.t.Fatalf("%v: Get(%d): %.60q %d, not %.60q %d", row, i, got, err, text, want)
		}
	}
}

// turn takes one step; a log whose disk fell is opened behind it.
func (b *bench) turn(s step) {
	b.t.Helper()
	got, want := b.do(s)
	if got != want {
		b.t.Fatalf("%v: %d, not %d", s, got, want)
	}
	b.same([]step{s})
	if (b.opens || !b.d.Up()) && !b.open() {
		b.t.Fatalf("%v: it can't be opened", s)
	}
}

// row takes steps one by one.
func (b *bench) row(row []step) {
	b.t.Helper()
	if !b.open() {
		b.t.Fatal("it can't be opened")
	}
	for i, s := range row {
		b.turn(s)
		b.same(row[:i+1])
	}
	b.d.Crash(0)
	b.o.d.Crash(0)
	b.opens = true
	b.open()
	b.same(row)
}

// fewSteps are such as short rows are made of.
var fewSteps = []step{
	{what: "append", n: 0},
	{what: "append", n: 2039},
	{what: "append", n: 2040},
	{what: "append", n: 8193},
	{what: "sync"},
	{what: "cut", n: 0},
	{what: "cut", n: 1},
	{what: "cut", n: 2},
	{what: "cutfirst", n: 0},
	{what: "cutfirst", n: 1},
	{what: "cutfirst", n: -1},
	{what: "drop", n: 1},
	{what: "drop", n: 2},
	{what: "drop", n: 1000},
	{what: "reset", n: 1},
	{what: "reset", n: 999999},
	{what: "open"},
	{what: "arm", n: 0, keep: 5},
	{what: "arm", n: 1, keep: 2000},
	{what: "crash", keep: 2060},
}

func TestShortRows(t *testing.T) {
	begins := [][]step{
		nil,
		{{what: "append", n: 2040}, {what: "append", n: 3}, {what: "sync"}, {what: "append", n: 2040}, {what: "append", n: 1}},
	}
	for _, begin := range begins {
		for _, x := range fewSteps {
			for _, y := range fewSteps {
				for _, z := range fewSteps {
					newBench(t, 10000).row(append(slices.Clip(begin), x, y, z))
				}
			}
		}
	}
}

// draws are numbers without an order to be seen, the same ones from the same start.
func draws(start int) func(n int) int {
	x := uint64(start)*2654435761 + 12345
	return func(n int) int {
		x = x*6364136223846793005 + 1442695040888963407
		return int((x >> 33) % uint64(n))
	}
}

// longRow is a row of steps of all kinds.
func longRow(start, size int) []step {
	draw := draws(start)
	kinds := strings.Fields("append append append append append append append append append append sync sync cut cutfirst drop reset open arm arm crash")
	sizes := []int{0, 1, 2, 8, 100, 500, 1015, 1016, 1017, 2039, 2040, 2041, 8192, 8193}
	var row []step
	for range size {
		s := step{what: kinds[draw(len(kinds))], keep: uint64(draw(5000))}
		switch s.what {
		case "append":
			s.n = sizes[draw(len(sizes))]
		case "cut":
			s.n = 2 - draw(8)
		case "cutfirst":
			s.n = draw(8) - 1
		case "drop":
			s.n = draw(20) - 2
		case "reset":
			s.n = []int{0, 1, 2, 99998, 999990, 999998, 999999, 1000000}[draw(8)]
		case "arm":
			s.n = draw(8) - 1
		}
		row = append(row, s)
	}
	return row
}

func TestLongRows(t *testing.T) {
	rooms := []int{0, 20, 2100, 5000, 20000, manyBytes}
	for start := range 1200 {
		newBench(t, rooms[start%len(rooms)]).row(longRow(start, 80))
	}
}

// The same calls have the same answers; two logs by turns are each as alone.
func TestTurns(t *testing.T) {
	for start := range 40 {
		a, b := newBench(t, 20000), newBench(t, 5000)
		a.open()
		b.open()
		rowA, rowB := longRow(start, 60), longRow(start+1000, 60)
		for i := range rowA {
			a.turn(rowA[i])
			b.turn(rowB[i])
			a.same(rowA[:i+1])
		}
	}
}

// Disks that no log wrote: files of frames, parts of frames, frames of other numbers, of names that follow or not.
func TestOpenOtherReading(t *testing.T) {
	good, bad, torn := 0, 0, 0
	for start := range 20000 {
		b := newBench(t, manyBytes, strange(draws(start))...)
		was := content(b.d)
		switch {
		case !b.open():
			bad++
			if !slices.Equal(content(b.d), was) {
				t.Fatalf("%q: it was refused, and changed", was)
			}
		case slices.Equal(content(b.d), was):
			good++
		default:
			torn++
		}
		b.same(nil)
		b.opens = true
		b.d.Crash(0)
		b.o.d.Crash(0)
		b.open()
		b.same(nil)
	}
	if good < 1000 || bad < 1000 || torn < 1000 {
		t.Errorf("%d good ones, %d bad ones, %d torn ones", good, bad, torn)
	}
}

// strange are files, by far the most of which could be a log's.
func strange(draw func(n int) int) []string {
	var files []string
	number := []int{1, 1, 1, 2, 9, 99, 999996, 999998, 999999}[draw(9)]
	for range draw(4) {
		name, text := nameOf(number), ""
		for range draw(4) {
			text += framed(number, wide(byte(number), draw(12)))
			number++
		}
		switch draw(16) {
		case 0, 1:
			text += framed(number, "torn")[:draw(12)]
		case 2:
			text += framed(number+1, "x")
		case 3:
			turned := []byte(text + "....")
			turned[draw(len(turned))] ^= 1 << draw(8)
			text = string(turned)
		case 4:
			number++
		case 5:
			name = []string{"log.0", "log.000000", "log.0000001", "snap"}[draw(4)]
		}
		files = append(files, name, text)
	}
	return files
}
