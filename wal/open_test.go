package wal

import (
	"fmt"
	"slices"
	"strings"
	"testing"

	"scriptorium/api"
	"scriptorium/disk"
)

func TestOpenNew(t *testing.T) {
	d := disk.New(0)
	has(t, opened(t, d), 1)
	hasFiles(t, d, "log.000001", "")
	has(t, opened(t, d), 1)
	hasFiles(t, d, "log.000001", "")
}

func TestOpenNotUp(t *testing.T) {
	for _, d := range []*disk.Disk{disk.New(100), laid(t, "log.000001", frames(1, "ab"))} {
		was := content(d)
		d.Crash(0)
		l, err := Open(d)
		if err != api.ErrOff || l != nil {
			t.Errorf("Open: %v %d", l, err)
		}
		d.Start()
		hasFiles(t, d, was...)
	}
}

// noSegments are names that only look like a segment's.
var noSegments = []string{
	"a", "hard", "snap.new", "log", "log.", "log.1", "log.00001", "log.0000001", "log.1000000", "log.0000010",
	"log.000000", "log.0000000", "log.00000a", "log.a00001", "log.-00001", "log.+00001", "log. 00001", "log.00001 ",
	"log.0x0001", "log.00_001", "log.1.0000", "log.00000\x00", "log.00000/", "log.00000:", "log.00001\xff",
	"log.00000\xd9\xa1", "log.0000\xd9\xa1", "log-000001", "log,000001", "log000001", "Log.000001", "LOG.000001", "lo.000001",
	"alog.000001", " log.000001", "log.000001.new", "log.000001\n", "log..00001", "logs.000001", "000001", ".000001",
}

// Files of other names have nothing to do with a log, whatever they have.
func TestOpenOtherFiles(t *testing.T) {
	for _, name := range noSegments {
		for _, text := range []string{"", "torn", frames(1, "no", "record")} {
			d := laid(t, name, text)
			l := opened(t, d)
			has(t, l, 1)
			put(t, l, "ab")
			if b, err := d.Read(name); err != api.OK || string(b) != text {
				t.Errorf("%q has %q, %d", name, b, err)
			}
			if len(d.Files()) != 2 || !slices.Contains(d.Files(), "log.000001") {
				t.Errorf("beside %q there is %q", name, d.Files())
			}
		}
	}
}

// All of them at once, beside a log that has records.
func TestOpenAmongOtherFiles(t *testing.T) {
	files := []string{"log.000002", frames(2, "b", "c"), "log.000004", frames(4, "d")}
	for _, name := range noSegments {
		files = append(files, name, "torn "+name)
	}
	d := laid(t, files...)
	was := content(d)
	l := opened(t, d)
	has(t, l, 2, "b", "c", "d")
	hasFiles(t, d, was...)
	answers(t, "Drop", l.Drop(9), api.OK)
	answers(t, "Cut", l.Cut(4), api.OK)
	answers(t, "Reset", l.Reset(7), api.OK)
	if len(d.Files()) != len(noSegments)+1 || !slices.Contains(d.Files(), "log.000007") {
		t.Errorf("there is %q", d.Files())
	}
	for _, name := range noSegments {
		if b, _ := d.Read(name); string(b) != "torn "+name {
			t.Errorf("%q has %q", name, b)
		}
	}
}

func TestOpenSegments(t *testing.T) {
	for first, texts := range map[int][]string{
		1:      {"a", "", "b", wide('x', 3000), "c"},
		40:     {"a", "b"},
		99999:  {"a", "b", "c"},
		999990: {"0", "1", "2", "3", "4", "5", "6", "7", "8", "9"},
		999999: {"last"},
	} {
		// Wherever they are parted, the same records are told; a part may be empty at the end alone.
		for parted := 1; parted <= len(texts); parted++ {
			files := []string{fmt.Sprintf("log.%06d", first), frames(first, texts[:parted]...)}
			if first+parted <= api.MaxIndex {
				files = append(files, fmt.Sprintf("log.%06d", first+parted), frames(first+parted, texts[parted:]...))
			}
			d := laid(t, files...)
			has(t, opened(t, d), first, texts...)
			hasFiles(t, d, files...)
		}
	}
}

// Many segments are gone through by their numbers, not in the order in which they were made.
func TestOpenManySegments(t *testing.T) {
	var files, texts []string
	for i := 120; i >= 1; i-- {
		files = append(files, fmt.Sprintf("log.%06d", i), framed(i, fmt.Sprint(i)))
		texts = append(texts, fmt.Sprint(121-i))
	}
	has(t, opened(t, laid(t, files...)), 1, texts...)
}

func TestOpenEmptySegment(t *testing.T) {
	for _, number := range []int{1, 2, 40, 999999} {
		has(t, opened(t, laid(t, fmt.Sprintf("log.%06d", number), "")), number)
	}
	has(t, opened(t, laid(t, "log.000003", frames(3, "a"), "log.000004", "")), 3, "a")
}

// Each segment begins where the one ahead of it ends.
func TestOpenNotFollowing(t *testing.T) {
	for _, files := range [][]string{
		{"log.000001", frames(1, "a"), "log.000003", frames(3, "c")},
		{"log.000001", frames(1, "a"), "log.000003", ""},
		{"log.000001", frames(1, "a", "b"), "log.000002", frames(2, "b")},
		{"log.000001", frames(1, "a", "b"), "log.000002", ""},
		{"log.000001", "", "log.000002", frames(2, "b")},
		{"log.000001", "", "log.000002", ""},
		{"log.000001", "", "log.999999", ""},
		{"log.000001", frames(1, "a"), "log.000002", "", "log.000003", frames(3, "c")},
		{"log.000001", frames(1, "a"), "log.000002", frames(2, "b"), "log.000004", ""},
		{"log.000001", frames(1, "a"), "log.000003", frames(3, "c"), "log.000004", frames(4, "d")},
		{"log.000007", frames(7, "a", "b", "c"), "log.000009", frames(9, "c", "d")},
	} {
		refused(t, laid(t, files...), api.ErrBad)
	}
}

// A record may have the number MaxIndex; one above it is told, be it that its frame stands; what is torn there is no record.
func TestOpenAboveMaxIndex(t *testing.T) {
	refused(t, laid(t, "log.999999", frames(999999, "a", "b")), api.ErrBad)
	refused(t, laid(t, "log.999999", frames(999999, "a", "b")+"torn"), api.ErrBad)
	refused(t, laid(t, "log.999999", frames(999999, "a", "b", "c")), api.ErrBad)
	refused(t, laid(t, "log.999998", frames(999998, "a", "b", "c")), api.ErrBad)
	refused(t, laid(t, "log.999997", frames(999997, "a", "b"), "log.999999", frames(999999, "c", "d")), api.ErrBad)
	refused(t, laid(t, "log.999997", frames(999997, "a", "b", "c", "d"), "log.999999", frames(999999, "c")), api.ErrBad)
	for _, torn := range []string{"", "t", "torn", framed(1000001, "b"), framed(1, "b"), framed(1000000, "b")[:8], "\x00\x00\x00\x00\x00\x00\x00\x00"} {
		d := laid(t, "log.999998", frames(999998, "z", "a")+torn)
		l := opened(t, d)
		has(t, l, 999998, "z", "a")
		hasFiles(t, d, "log.999998", frames(999998, "z", "a"))
		answers(t, "Append", l.Append(nil), api.ErrMany)
	}
}

// fallen are places at which no frame of the number 3 stands.
func fallen() map[string]string {
	whole := framed(3, "cdefgh")
	long := framed(3, strings.Repeat("c", api.MaxRecord+1))
	m := map[string]string{
		"a length above MaxRecord":            long,
		"such a length, and more behind":      long + framed(4, "d"),
		"a length far above":                  "\x00\x00\x01\x00" + whole[4:],
		"the greatest length":                 "\xff\xff\xff\xff" + whole[4:],
		"a length below 0, were it signed":    "\x00\x00\x00\x80" + whole[4:],
		"a length of one more":                "\x07" + whole[1:],
		"a length of one less":                "\x05" + whole[1:],
		"a length of nothing":                 "\x00" + whole[1:],
		"a length with the highest bytes set": "\x06\x00\x00\x01" + whole[4:],
		"nothing but noughts":                 strings.Repeat("\x00", 100),
		"the frame of the number ahead":       framed(2, "cdefgh"),
		"the frame of the number behind":      framed(4, "cdefgh"),
		"the sum of the data alone":           whole[:4] + "\x73\xa9\x67\x7acdefgh",
		"a sum with the highest byte first":   whole[:4] + whole[7:8] + whole[6:7] + whole[5:6] + whole[4:5] + "cdefgh",
		"a length with the highest first":     "\x00\x00\x00\x06" + whole[4:],
		"a sum of nought":                     whole[:4] + "\x00\x00\x00\x00cdefgh",
		"a frame, a byte too late":            "\x00" + whole,
		"MaxRecord bytes of which one is not": framed(3, wide('c', api.MaxRecord))[:api.MaxRecord+7],
	}
	for n := 1; n < len(whole); n++ {
		m[fmt.Sprintf("its first %d bytes", n)] = whole[:n]
	}
	for at := range len(whole) {
		for bit := range 8 {
			turned := []byte(whole)
			turned[at] ^= 1 << bit
			m[fmt.Sprintf("bit %d of byte %d turned", bit, at)] = string(turned)
		}
	}
	return m
}

// In the last segment it is the end: it is cut there.
func TestOpenTorn(t *testing.T) {
	for what, torn := range fallen() {
		for _, behind := range []string{"", "x", framed(3, "c"), framed(4, "d")} {
			if strings.HasPrefix(what, "its first") && behind != "" {
				continue
			}
			for _, ahead := range [][]string{
				{"log.000001", frames(1, "a", "b")},
				{"log.000002", frames(2, "b")},
				{"log.000003", ""},
				{"log.000001", frames(1, "a", "b"), "log.000003", ""},
				{"log.000001", frames(1, "a"), "log.000002", frames(2, "b")},
			} {
				files := slices.Clone(ahead)
				files[len(files)-1] += torn + behind
				d := laid(t, files...)
				l := opened(t, d)
				if l.Last() != 2 {
					t.Errorf("%s: Last is %d", what, l.Last())
				}
				hasFiles(t, d, ahead...)
				put(t, l, "new")
				if b, _ := l.Get(3); string(b) != "new" {
					t.Errorf("%s: the new one is %q", what, b)
				}
			}
		}
	}
}

// Ahead of the last segment it is told: ErrBad, and nothing is cut.
func TestOpenBad(t *testing.T) {
	for what, bad := range fallen() {
		for _, number := range []int{3, 4, 5} {
			last := fmt.Sprintf("log.%06d", number)
			for _, text := range []string{"", framed(number, "d"), "torn"} {
				refused(t, laid(t, "log.000001", frames(1, "a", "b")+bad, last, text), api.ErrBad)
			}
		}
		refused(t, laid(t, "log.000001", frames(1, "a", "b"), "log.000003", bad, "log.000004", frames(4, "d")), api.ErrBad)
		if t.Failed() {
			t.Fatal(what)
		}
	}
	refused(t, laid(t, "log.000001", "torn", "log.000002", ""), api.ErrBad)
	refused(t, laid(t, "log.000001", frames(1, "a")+"x", "log.000002", frames(2, "b"), "log.000003", frames(3, "c")), api.ErrBad)
}

// A record of MaxRecord bytes stands; a byte more, with all that belongs to it, does not.
func TestOpenMaxRecord(t *testing.T) {
	most := wide('m', api.MaxRecord)
	has(t, opened(t, laid(t, "log.000001", frames(1, most, "b"))), 1, most, "b")
	has(t, opened(t, laid(t, "log.000001", frames(1, most), "log.000002", frames(2, "b"))), 1, most, "b")
	refused(t, laid(t, "log.000001", frames(1, most+"!"), "log.000002", frames(2, "b")), api.ErrBad)
	has(t, opened(t, laid(t, "log.000001", frames(1, "a", most+"!"))), 1, "a")
}

// What Open tells lasts: the last segment is synced, be there a torn tail or not.
func TestOpenSyncs(t *testing.T) {
	for _, torn := range []string{"", "torn"} {
		d := laid(t, "log.000001", frames(1, "a"))
		d.Append("log.000002", []byte(frames(2, "b", "c")+torn))
		opened(t, d)
		restarted(d, 0)
		hasFiles(t, d, "log.000001", frames(1, "a"), "log.000002", frames(2, "b", "c"))
		has(t, opened(t, d), 1, "a", "b", "c")
	}
}

// It syncs the last one alone.
func TestOpenSyncsTheLastAlone(t *testing.T) {
	d := disk.New(1000)
	for _, file := range []string{"a", "log.000001", "log.000002", "snap"} {
		number := segmentNumber(file)
		d.Append(file, []byte(framed(number, "x")))
	}
	opened(t, d)
	restarted(d, 0)
	hasFiles(t, d, "a", "", "log.000001", "", "log.000002", framed(2, "x"), "snap", "")
}

// A log can be opened again and again, and two of one disk tell the same.
func TestOpenAgain(t *testing.T) {
	d := disk.New(manyBytes)
	l := opened(t, d)
	var texts []string
	for i := range 60 {
		texts = append(texts, wide(byte(i), i*13))
		put(t, l, texts[i])
		again := opened(t, d)
		has(t, again, 1, texts...)
		has(t, l, 1, texts...)
		if i%2 == 0 {
			l = again
		}
	}
}
