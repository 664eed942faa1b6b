package stable

import (
	"encoding/binary"
	"slices"
	"strings"
	"testing"

	"scriptorium/api"
	"scriptorium/disk"
	"scriptorium/wal"
)

// other is a stable read once more: what is saved is kept, its deeds are listed ahead of being done, and what may be is what reads back as itself.
type other struct {
	d   *disk.Disk
	log *wal.Log
	w   api.Saved
}

// cutNumber is the number with which a text begins, whichever way it is written; -1, if it is none or very great.
func cutNumber(text *string) int {
	n, size := binary.Uvarint([]byte(*text))
	if size <= 0 || n > 1<<40 {
		*text = ""
		return -1
	}
	*text = (*text)[size:]
	return int(n)
}

func cutNodes(text *string) []int {
	var nodes []int
	for range min(cutNumber(text), 9) {
		nodes = append(nodes, cutNumber(text))
	}
	return nodes
}

// otherHard is what a file hard says.
func otherHard(text string) (int, int, bool) {
	rest := text
	term, vote := cutNumber(&rest), cutNumber(&rest)
	return term, vote, text == hardText(term, vote) && mayHard(term, vote)
}

func mayHard(term, vote int) bool {
	return term >= 0 && term < 1000000 && vote >= 0 && vote < 6
}

func otherSnap(text string) (api.Snap, bool) {
	rest := text
	x := api.Snap{Index: cutNumber(&rest), Term: cutNumber(&rest), Nodes: cutNodes(&rest)}
	x.Data = []byte(rest[:max(min(cutNumber(&rest), len(rest)), 0)])
	return x, text == snapText(x) && maySnap(x)
}

func maySnap(x api.Snap) bool {
	return x.Index > 0 && x.Index < 999999 && x.Term >= 0 && x.Term < 1000000 && rising(x.Nodes) && len(x.Data) <= 300000
}

func otherEntry(index int, text string) (api.Entry, bool) {
	rest := text
	e := api.Entry{Index: index, Term: cutNumber(&rest), Kind: cutNumber(&rest)}
	switch e.Kind {
	case 1:
		e.Data = []byte(rest)
	case 2:
		e.Nodes = cutNodes(&rest)
	}
	right := e.Term > 0 && e.Term < 1000000 && e.Kind >= 0 && e.Kind < 3 && len(e.Data) <= 8000 && (e.Kind < 2 || rising(e.Nodes))
	return e, right && recordText(e) == text
}

// readOther is Open; nothing is saved beside an error.
func readOther(d *disk.Disk) (*other, api.Errno) {
	o := &other{d: d}
	if !d.Up() {
		return o, api.ErrOff
	}
	var clear []deed
	for _, name := range []string{"hard.new", "snap.new"} {
		if slices.Contains(d.Files(), name) {
			clear = append(clear, removes(name))
		}
	}
	if err := allDone(d, clear); err != api.OK {
		return o, err
	}
	bad := false
	for _, name := range d.Files() {
		b, _ := d.Read(name)
		right := true
		switch name {
		case "hard":
			o.w.Term, o.w.Vote, right = otherHard(string(b))
		case "snap":
			o.w.Snap, right = otherSnap(string(b))
		}
		bad = bad || !right
	}
	if bad {
		return &other{d: d}, api.ErrBad
	}
	return o.readLog()
}

func (o *other) readLog() (*other, api.Errno) {
	nothing := &other{d: o.d}
	var err api.Errno
	if o.log, err = wal.Open(o.d); err != api.OK {
		return nothing, err
	}
	l, bad := o.above(o.w.Snap.Index)
	if o.anothers(o.w.Snap) {
		if err := o.log.Reset(o.w.Snap.Index + 1); err != api.OK {
			return nothing, err
		}
		return o, api.OK
	}
	if bad {
		return nothing, api.ErrBad
	}
	o.w.Entries = l
	return o, api.OK
}

// above are the log's entries above an index, and whether one of its records there is none.
func (o *other) above(index int) ([]api.Entry, bool) {
	var l []api.Entry
	bad := false
	for i := max(index+1, o.log.First()); i <= o.log.Last(); i++ {
		b, _ := o.log.Get(i)
		e, right := otherEntry(i, string(b))
		l = append(l, e)
		bad = bad || !right
	}
	return l, bad
}

func (o *other) anothers(x api.Snap) bool {
	if x.Index > o.log.Last() || x.Index+1 < o.log.First() {
		return true
	}
	b, _ := o.log.Get(x.Index + 1)
	e, right := otherEntry(x.Index+1, string(b))
	return right && x.Term > e.Term
}

func (o *other) saveHard(term, vote int) api.Errno {
	if !mayHard(term, vote) {
		return api.ErrArg
	}
	err := allDone(o.d, anew("hard", hardText(term, vote)))
	if err == api.OK {
		o.w.Term, o.w.Vote = term, vote
	}
	return err
}

func (o *other) put(l []api.Entry) api.Errno {
	last := o.w.Snap.Index + len(o.w.Entries)
	for i, e := range l {
		again, right := otherEntry(e.Index, recordText(e))
		if !right || told(api.Saved{Entries: entries(e)}) != told(api.Saved{Entries: entries(again)}) || e.Index != l[0].Index+i {
			return api.ErrArg
		}
	}
	switch {
	case len(l) == 0:
		return api.OK
	case l[0].Index <= o.w.Snap.Index || l[0].Index > last+1:
		return api.ErrIndex
	}
	if l[0].Index <= last {
		o.w.Entries = o.w.Entries[:l[0].Index-o.w.Snap.Index-1]
		if err := o.log.Cut(l[0].Index); err != api.OK {
			return err
		}
	}
	for _, e := range l {
		if err := o.log.Append([]byte(recordText(e))); err != api.OK {
			return err
		}
		o.w.Entries = append(slices.Clip(o.w.Entries), e)
	}
	return o.log.Sync()
}

func (o *other) saveSnap(x api.Snap) api.Errno {
	if !maySnap(x) {
		return api.ErrArg
	}
	if x.Index <= o.w.Snap.Index {
		return api.ErrIndex
	}
	if err := allDone(o.d, anew("snap", snapText(x))); err != api.OK {
		return err
	}
	another := o.anothers(x)
	o.w.Entries = o.w.Entries[min(x.Index-o.w.Snap.Index, len(o.w.Entries)):]
	o.w.Snap = x
	if another {
		o.w.Entries = nil
		return o.log.Reset(x.Index + 1)
	}
	return o.log.Drop(x.Index + 1)
}

// step is a call of a stable, or what becomes of its disk. An index is one beside the snapshot's, or beside the last entry's.
type step struct {
	what         string
	n, term      int
	sizes        []int
	kind, broken int
	keep         uint64
}

// list are the entries of a step, from an index on; one of them may be broken.
func (s step) list(index int) []api.Entry {
	var l []api.Entry
	for i, size := range s.sizes {
		e := api.Entry{Index: index + i, Term: s.term, Kind: (s.kind + i) % 3}
		switch e.Kind {
		case 1:
			e.Data = []byte(strings.Repeat(string(rune('a'+(size+i)%26)), size))
		case 2:
			e.Nodes = [][]int{{1}, {1, 2, 3}, {2, 5}}[size%3]
		}
		l = append(l, e)
	}
	if s.broken > 0 && len(l) > 0 {
		e := &l[s.broken%len(l)]
		switch s.broken % 5 {
		case 0:
			e.Index++
		case 1:
			e.Term = 0
		case 2:
			e.Kind = (e.Kind + 1) % 4
		case 3:
			e.Nodes = []int{2, 1}
		case 4:
			e.Data = make([]byte, 8001)
		}
	}
	return l
}

// bench is a stable and another reading of it, each on a disk of its own.
type bench struct {
	t *testing.T
	d *disk.Disk
	s *Stable
	o *other
	// opens tells that the stable must be opened anew, as its disk's power failed.
	opens bool
}

func newBench(t *testing.T, room int, files ...string) *bench {
	b := &bench{t: t, d: disk.New(room), o: &other{d: disk.New(room)}, opens: true}
	for _, d := range []*disk.Disk{b.d, b.o.d} {
		for i := 0; i < len(files); i += 2 {
			d.Append(files[i], []byte(files[i+1]))
		}
	}
	return b
}

// do takes a step on both, and tells what each answered.
func (b *bench) do(s step) (api.Errno, api.Errno) {
	index, last := b.o.w.Snap.Index, b.o.w.Snap.Index+len(b.o.w.Entries)
	switch s.what {
	case "arm":
		b.d.Arm(s.n, s.keep)
		b.o.d.Arm(s.n, s.keep)
	case "crash":
		b.d.Crash(s.keep)
		b.o.d.Crash(s.keep)
	case "open":
		b.opens = true
	case "hard":
		return b.s.SaveHard(s.term, s.n), b.o.saveHard(s.term, s.n)
	case "put":
		l := s.list(last + s.n)
		return b.s.Put(l), b.o.put(l)
	case "putfirst":
		l := s.list(index + s.n)
		return b.s.Put(l), b.o.put(l)
	case "snap", "snaplast":
		x := snapshot(index+s.n, s.term, strings.Repeat("s", s.kind*s.kind), 1+s.kind%5)
		if s.what == "snaplast" {
			x.Index = last + s.n
		}
		return b.s.SaveSnap(x), b.o.saveSnap(x)
	}
	return api.OK, api.OK
}

// open opens both, starting their disks again where power fails; it tells whether there is a stable, and whether both say so.
func (b *bench) open() bool {
	b.t.Helper()
	for {
		b.d.Start()
		b.o.d.Start()
		s, w, got := Open(b.d)
		o, want := readOther(b.o.d)
		b.s, b.o = s, o
		if got != want || (s == nil) != (got != api.OK) || told(w) != told(o.w) {
			b.t.Fatalf("Open: %v, %d, %.300s; not %d, %.300s", s, got, told(w), want, told(o.w))
		}
		if got != api.ErrOff {
			b.opens = got != api.OK
			return got == api.OK
		}
	}
}

// same holds the disks against each other, and, where nothing is loose, what is told of them.
func (b *bench) same(row []step) {
	b.t.Helper()
	if b.d.Up() != b.o.d.Up() || b.d.Falls() != b.o.d.Falls() || !slices.Equal(content(b.d), content(b.o.d)) {
		b.t.Fatalf("%v: up %v, %d falls, %.400q, not %v, %d, %.400q", row, b.d.Up(), b.d.Falls(), content(b.d), b.o.d.Up(), b.o.d.Falls(), content(b.o.d))
	}
}

// turn takes one step; a stable whose disk fell is opened behind it.
func (b *bench) turn(s step) {
	b.t.Helper()
	got, want := b.do(s)
	if got != want {
		b.t.Fatalf("%v: %d, not %d", s, got, want)
	}
	b.same([]step{s})
	if (b.opens || !b.d.Up()) && !b.open() {
		b.t.Fatalf("%v: it can't be opened", s)
	}
}

// row takes steps one by one, and a fall behind them.
func (b *bench) row(row []step) {
	b.t.Helper()
	if !b.open() {
		b.t.Fatal("it can't be opened")
	}
	for i, s := range row {
		b.turn(s)
		b.same(row[:i+1])
	}
	b.turn(step{what: "crash"})
	b.same(row)
}

// fewSteps are such as short rows are made of.
var fewSteps = []step{
	{what: "hard", term: 3, n: 2},
	{what: "hard", term: 3, n: 6},
	{what: "put", n: 1, term: 3, sizes: []int{3}, kind: 1},
	{what: "put", n: 1, term: 2, sizes: []int{1015, 1100, 0}, kind: 1},
	{what: "put", n: 0, term: 4, sizes: []int{0, 1}},
	{what: "put", n: -1, term: 4, sizes: []int{1}, kind: 2},
	{what: "put", n: 2, term: 4, sizes: []int{1}, kind: 2},
	{what: "putfirst", n: 1, term: 1, sizes: []int{5}, kind: 1},
	{what: "putfirst", n: 0, term: 1, sizes: []int{5}, kind: 1},
	{what: "put", n: 1, term: 0, sizes: []int{5}, kind: 1},
	{what: "snap", n: 1, term: 3, kind: 2},
	{what: "snap", n: 2, term: 2, kind: 3},
	{what: "snap", n: 0, term: 3},
	{what: "snaplast", n: 0, term: 4, kind: 1},
	{what: "snaplast", n: -1, term: 5},
	{what: "snaplast", n: 1, term: 1},
	{what: "open"},
	{what: "arm", n: 0, keep: 5},
	{what: "arm", n: 2, keep: 1030},
	{what: "crash", keep: 2060},
}

func TestShortRows(t *testing.T) {
	begins := [][]step{
		nil,
		{{what: "put", n: 1, term: 3, sizes: []int{3, 1000, 2, 1100, 1, 2}, kind: 1}, {what: "snap", n: 1, term: 3, kind: 1}},
	}
	for _, begin := range begins {
		for _, x := range fewSteps {
			for _, y := range fewSteps {
				for _, z := range fewSteps {
					newBench(t, 6000).row(append(slices.Clip(begin), x, y, z))
				}
			}
		}
	}
}

// draws are numbers without an order to be seen, the same ones from the same start.
func draws(start int) func(n int) int {
	x := uint64(start)*2654435761 + 12345
	return func(n int) int {
		x = x*6364136223846793005 + 1442695040888963407
		return int((x >> 33) % uint64(n))
	}
}

// longRow is a row of steps of all kinds.
func longRow(start, size int) []step {
	draw := draws(start)
	kinds := strings.Fields("hard hard put put put put put put putfirst snap snap snaplast open arm arm crash")
	sizes := []int{0, 1, 2, 8, 100, 500, 1015, 1016, 1017, 2039, 8000}
	var row []step
	for range size {
		s := step{what: kinds[draw(len(kinds))], keep: uint64(draw(5000)), term: 1 + draw(6), kind: draw(12)}
		switch s.what {
		case "hard":
			s.n = draw(7)
		case "put":
			s.n = []int{1, 1, 1, 0, -1, -2, 2}[draw(7)]
		case "putfirst":
			s.n = draw(4)
		case "snap":
			s.n = draw(8)
		case "snaplast":
			s.n = draw(5) - 3
		case "arm":
			s.n = draw(12) - 1
		}
		for range draw(5) {
			s.sizes = append(s.sizes, sizes[draw(len(sizes))])
		}
		if draw(12) == 0 {
			s.broken = draw(60)
		}
		if draw(60) == 0 {
			s.term, s.n = []int{0, 999999, 1000000}[draw(3)], draw(1000)
		}
		row = append(row, s)
	}
	return row
}

func TestLongRows(t *testing.T) {
	rooms := []int{0, 40, 2100, 5000, 20000, manyBytes}
	for start := range 900 {
		newBench(t, rooms[start%len(rooms)]).row(longRow(start, 80))
	}
}

// The same calls have the same answers; two stables by turns are each as alone.
func TestTurns(t *testing.T) {
	for start := range 40 {
		a, b := newBench(t, 20000), newBench(t, 5000)
		a.open()
		b.open()
		rowA, rowB := longRow(start, 60), longRow(start+1000, 60)
		for i := range rowA {
			a.turn(rowA[i])
			b.turn(rowB[i])
			a.same(rowA[:i+1])
		}
	}
}

// Disks that no stable wrote: files that are right or not, logs that go on from the snapshot or not, records that are entries or not.
func TestOpenOtherReading(t *testing.T) {
	good, bad, another := 0, 0, 0
	for start := range 30000 {
		b := newBench(t, manyBytes, strange(draws(start))...)
		was := slices.Clone(b.d.Files())
		switch {
		case !b.open():
			bad++
		case len(b.o.w.Entries) > 0 || slices.Equal(b.d.Files(), was):
			good++
		default:
			another++
		}
		b.same(nil)
		b.turnAgain()
	}
	if good < 3000 || bad < 3000 || another < 3000 {
		t.Errorf("%d good ones, %d bad ones, %d another's", good, bad, another)
	}
}

// turnAgain opens both behind a fall that keeps nothing loose, with power failing once more meanwhile.
func (b *bench) turnAgain() {
	b.t.Helper()
	b.d.Crash(0)
	b.o.d.Crash(0)
	b.open()
	b.same(nil)
}

// strange are files, by far the most of which could be a stable's.
func strange(draw func(n int) int) []string {
	var files []string
	if draw(3) > 0 {
		files = append(files, "hard", spoilt(draw, hardText(draw(5), draw(7)%6)))
	}
	index := draw(6)
	if index > 0 {
		files = append(files, "snap", spoilt(draw, snapText(snapshot(index, draw(4), "data"[draw(5):], 1+draw(4)))))
	}
	for _, name := range []string{"hard.new", "snap.new"} {
		if draw(4) == 0 {
			files = append(files, name, hardText(9, 1)[draw(6):])
		}
	}
	number := []int{1, 1, index + 1, index + 1, index, 2, 4}[draw(7)]
	for range draw(3) {
		name, text := segment(max(number, 1)), ""
		for range draw(4) {
			l := step{term: 1 + draw(5), kind: draw(3), sizes: []int{draw(9)}}.list(max(number, 1))
			record := recordText(l[0])
			if draw(20) == 0 {
				record = spoilt(func(n int) int { return draw(n) / 4 * 4 % n }, record)
			}
			text += frames(max(number, 1), record)
			number = max(number, 1) + 1
		}
		files = append(files, name, text)
	}
	return files
}

// spoilt is a text, or, in some draws, one that was changed.
func spoilt(draw func(n int) int, text string) string {
	switch draw(24) {
	case 0:
		return text[:draw(len(text))]
	case 1:
		return text + "x"
	case 2, 4:
		b := []byte(text)
		b[draw(len(b))] ^= 1 << draw(8)
		return string(b)
	case 3, 8:
		b := []byte(text)
		b[draw(len(b))] ^= 1 << draw(8)
		return summed(string(b[:max(len(b)-4, 0)]))
	}
	return text
}
