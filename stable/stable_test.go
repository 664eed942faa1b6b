package stable

import (
	"encoding/binary"
	"fmt"
	"hash/crc32"
	"slices"
	"strings"
	"testing"

	"scriptorium/api"
	"scriptorium/disk"
)

const manyBytes = 1 << 24

// answers checks what a call answered.
func answers(t *testing.T, what string, got, want api.Errno) {
	t.Helper()
	if got != want {
		t.Errorf("%s: %d, not %d", what, got, want)
	}
}

func none(index, term int) api.Entry {
	return api.Entry{Index: index, Term: term}
}

func command(index, term int, text string) api.Entry {
	return api.Entry{Index: index, Term: term, Kind: 1, Data: []byte(text)}
}

func grouping(index, term int, nodes ...int) api.Entry {
	return api.Entry{Index: index, Term: term, Kind: 2, Nodes: nodes}
}

func snapshot(index, term int, text string, nodes ...int) api.Snap {
	return api.Snap{Index: index, Term: term, Nodes: nodes, Data: []byte(text)}
}

func entries(l ...api.Entry) []api.Entry { return l }

// commands are entries of one term from an index on.
func commands(index, term int, texts ...string) []api.Entry {
	var l []api.Entry
	for i, text := range texts {
		l = append(l, command(index+i, term, text))
	}
	return l
}

// told writes what was saved so that two are told alike if they have the same items.
func told(w api.Saved) string {
	var b strings.Builder
	fmt.Fprintf(&b, "term %d, vote %d, snapshot %d of %d, nodes %d, %q", w.Term, w.Vote, w.Snap.Index, w.Snap.Term, w.Snap.Nodes, w.Snap.Data)
	for _, e := range w.Entries {
		fmt.Fprintf(&b, "; %d of %d, kind %d, %q, nodes %d", e.Index, e.Term, e.Kind, e.Data, e.Nodes)
	}
	return b.String()
}

// numbers, and all that is written below, is what stands on a disk, written by other means than the program's.
func numbers(l ...int) string {
	var b []byte
	for _, n := range l {
		b = binary.AppendUvarint(b, uint64(n))
	}
	return string(b)
}

func summed(text string) string {
	return string(binary.LittleEndian.AppendUint32([]byte(text), crc32.ChecksumIEEE([]byte(text))))
}

func hardText(term, vote int) string { return summed(numbers(term, vote)) }

func snapText(x api.Snap) string {
	return summed(numbers(x.Index, x.Term, len(x.Nodes)) + numbers(x.Nodes...) + numbers(len(x.Data)) + string(x.Data))
}

func recordText(e api.Entry) string {
	text := numbers(e.Term, e.Kind)
	switch e.Kind {
	case 1:
		text += string(e.Data)
	case 2:
		text += numbers(len(e.Nodes)) + numbers(e.Nodes...)
	}
	return text
}

// frames are a log's, of records from a number on.
func frames(number int, texts ...string) string {
	var b []byte
	for i, text := range texts {
		data := append(binary.LittleEndian.AppendUint64(nil, uint64(number+i)), text...)
		b = binary.LittleEndian.AppendUint32(b, uint32(len(text)))
		b = binary.LittleEndian.AppendUint32(b, crc32.ChecksumIEEE(data))
		b = append(b, text...)
	}
	return string(b)
}

// framed are the frames of entries that go on.
func framed(l ...api.Entry) string {
	var texts []string
	for _, e := range l {
		texts = append(texts, recordText(e))
	}
	if len(l) == 0 {
		return ""
	}
	return frames(l[0].Index, texts...)
}

// segment is the name of the log's file that begins with a number.
func segment(number int) string { return fmt.Sprintf("log.%06d", number) }

// laid is a disk with files, a name, its bytes, a name, its bytes, that last.
func laid(t *testing.T, files ...string) *disk.Disk {
	t.Helper()
	d := disk.New(manyBytes)
	for i := 0; i < len(files); i += 2 {
		answers(t, "disk's Append", d.Append(files[i], []byte(files[i+1])), api.OK)
		answers(t, "disk's Sync", d.Sync(files[i]), api.OK)
	}
	return d
}

// content is what a disk has: a name, its bytes, a name, its bytes.
func content(d *disk.Disk) []string {
	var l []string
	for _, name := range d.Files() {
		b, _ := d.Read(name)
		l = append(l, name, string(b))
	}
	return l
}

// hasFiles checks that these are all files of a disk.
func hasFiles(t *testing.T, d *disk.Disk, want ...string) {
	t.Helper()
	if got := content(d); !slices.Equal(got, want) {
		t.Errorf("the disk has %.400q, not %.400q", got, want)
	}
}

// restarted lets power fail, with so much kept, and come back.
func restarted(d *disk.Disk, keep uint64) *disk.Disk {
	d.Crash(keep)
	d.Start()
	return d
}

// opened is the stable of a disk, which can be opened, and what is told of it.
func opened(t *testing.T, d *disk.Disk) (*Stable, api.Saved) {
	t.Helper()
	s, w, err := Open(d)
	if err != api.OK || s == nil {
		t.Fatalf("Open of %.400q: %v %d", content(d), s, err)
	}
	return s, w
}

// tells checks what is told of a disk, also once more, and behind a fall that keeps nothing loose.
func tells(t *testing.T, d *disk.Disk, want api.Saved) {
	t.Helper()
	for _, fall := range []bool{false, false, true} {
		if fall {
			restarted(d, 0)
		}
		_, got := opened(t, d)
		if told(got) != told(want) {
			t.Fatalf("Open tells %.400s, not %.400s", told(got), told(want))
		}
	}
}

// refused checks that a disk has no stable.
func refused(t *testing.T, d *disk.Disk, want api.Errno) {
	t.Helper()
	was := content(d)
	s, w, err := Open(d)
	if err != want || s != nil || told(w) != told(api.Saved{}) {
		t.Errorf("Open of %.400q: %v %.400s, %d, not %d", was, s, told(w), err, want)
	}
}

func TestExample(t *testing.T) {
	d := disk.New(1000)
	s, w := opened(t, d)
	if told(w) != told(api.Saved{}) {
		t.Errorf("Open tells %s", told(w))
	}
	answers(t, "SaveHard(3, 2)", s.SaveHard(3, 2), api.OK)
	b, _ := d.Read("hard")
	if len(b) != 6 || b[0] != 3 || b[1] != 2 {
		t.Errorf("hard is %d", b)
	}
	answers(t, "Put of the entry 1", s.Put(entries(none(1, 3))), api.OK)
	if b, _ = d.Read("log.000001"); len(b) != 10 {
		t.Errorf("log.000001 is %d", b)
	}
	answers(t, "Put of the entry 3", s.Put(entries(none(3, 3))), api.ErrIndex)
	x := snapshot(1, 3, "", 1)
	answers(t, "SaveSnap", s.SaveSnap(x), api.OK)
	tells(t, d, api.Saved{Term: 3, Vote: 2, Snap: x})
	hasFiles(t, d, "hard", hardText(3, 2), "log.000001", framed(none(1, 3)), "snap", snapText(x))
}
