package wal

import (
	"encoding/binary"
	"hash/crc32"
	"slices"
	"strings"
	"testing"

	"scriptorium/api"
	"scriptorium/disk"
)

const manyBytes = 1 << 24

// answers checks what a call answered.
func answers(t *testing.T, what string, got, want api.Errno) {
	t.Helper()
	if got != want {
		t.Errorf("%s: %d, not %d", what, got, want)
	}
}

// framed is a record's frame, written by other means than the log's.
func framed(number int, text string) string {
	summed := binary.LittleEndian.AppendUint64(nil, uint64(number))
	head := binary.LittleEndian.AppendUint32(nil, uint32(len(text)))
	head = binary.LittleEndian.AppendUint32(head, crc32.ChecksumIEEE(append(summed, text...)))
	return string(head) + text
}

// frames are those of records from a number on.
func frames(number int, texts ...string) string {
	var b strings.Builder
	for i, text := range texts {
		b.WriteString(framed(number+i, text))
	}
	return b.String()
}

// laid is a disk with files, a name, its bytes, a name, its bytes, that last.
func laid(t *testing.T, files ...string) *disk.Disk {
	t.Helper()
	d := disk.New(manyBytes)
	for i := 0; i < len(files); i += 2 {
		answers(t, "disk's Append", d.Append(files[i], []byte(files[i+1])), api.OK)
		answers(t, "disk's Sync", d.Sync(files[i]), api.OK)
	}
	return d
}

// content is what a disk has: a name, its bytes, a name, its bytes.
func content(d *disk.Disk) []string {
	var l []string
	for _, name := range d.Files() {
		b, _ := d.Read(name)
		l = append(l, name, string(b))
	}
	return l
}

// hasFiles checks that these are all files of a disk.
func hasFiles(t *testing.T, d *disk.Disk, want ...string) {
	t.Helper()
	if got := content(d); !slices.Equal(got, want) {
		t.Errorf("the disk has %.300q, not %.300q", got, want)
	}
}

// opened is the log of a disk, which can be opened.
func opened(t *testing.T, d *disk.Disk) *Log {
	t.Helper()
	l, err := Open(d)
	if err != api.OK || l == nil {
		t.Fatalf("Open: %v %d", l, err)
	}
	return l
}

// refused checks that a disk has no log, and that Open changed nothing.
func refused(t *testing.T, d *disk.Disk, want api.Errno) {
	t.Helper()
	was := content(d)
	l, err := Open(d)
	if err != want || l != nil {
		t.Errorf("Open of %.300q: %v %d, not %d", was, l, err, want)
	}
	hasFiles(t, d, was...)
}

// has checks that a log has these records alone.
func has(t *testing.T, l *Log, first int, texts ...string) {
	t.Helper()
	if l.First() != first || l.Last() != first+len(texts)-1 {
		t.Errorf("First %d, Last %d, not %d, %d", l.First(), l.Last(), first, first+len(texts)-1)
		return
	}
	for i, want := range texts {
		b, err := l.Get(first + i)
		if err != api.OK || string(b) != want {
			t.Errorf("Get(%d): %.60q %d, not %.60q", first+i, b, err, want)
		}
	}
	for _, i := range []int{first - 1, first + len(texts)} {
		if b, err := l.Get(i); err != api.ErrIndex || len(b) != 0 {
			t.Errorf("Get(%d): %.60q %d", i, b, err)
		}
	}
}

// put appends records.
func put(t *testing.T, l *Log, texts ...string) {
	t.Helper()
	for _, text := range texts {
		answers(t, "Append", l.Append([]byte(text)), api.OK)
	}
}

// wide is a text of so many bytes, none of which stands where another such text has it.
func wide(mark byte, size int) string {
	b := make([]byte, size)
	for i := range b {
		b[i] = mark + byte(i*7)
	}
	return string(b)
}

// restarted lets power fail, with so much kept, and come back.
func restarted(d *disk.Disk, keep uint64) *disk.Disk {
	d.Crash(keep)
	d.Start()
	return d
}

func TestExample(t *testing.T) {
	d := disk.New(100)
	l := opened(t, d)
	if l.First() != 1 || l.Last() != 0 {
		t.Errorf("First %d, Last %d", l.First(), l.Last())
	}
	answers(t, "Append of ab", l.Append([]byte("ab")), api.OK)
	b, _ := d.Read("log.000001")
	if len(b) != 10 || string(b[:4]) != "\x02\x00\x00\x00" || string(b[8:]) != "ab" {
		t.Errorf("the file has %q", b)
	}
	answers(t, "Sync", l.Sync(), api.OK)
	answers(t, "Append of c", l.Append([]byte("c")), api.OK)
	restarted(d, 3)
	if b, _ := d.Read("log.000001"); len(b) != 13 {
		t.Errorf("the fall left %d bytes", len(b))
	}
	has(t, opened(t, d), 1, "ab")
	hasFiles(t, d, "log.000001", frames(1, "ab"))
}

// With a byte of a record turned, and a segment behind: ErrBad; without one it is the tail.
func TestExampleTurned(t *testing.T) {
	turned := []byte(frames(1, "ab"))
	turned[8] ^= 1
	refused(t, laid(t, "log.000001", string(turned), "log.000002", ""), api.ErrBad)
	refused(t, laid(t, "log.000001", string(turned), "log.000002", frames(2, "c")), api.ErrBad)
	has(t, opened(t, laid(t, "log.000001", string(turned))), 1)
}
