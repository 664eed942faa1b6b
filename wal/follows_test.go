package wal

import (
	"slices"
	"testing"

	"scriptorium/api"
	"scriptorium/disk"
)

// promise is what Open must tell, and may tell, if power fails now: from which number on the log begins, its texts, and how many of these are firm: there at the last Sync, or told by an Open.
type promise struct {
	first int
	all   []string
	firm  int
	// loosened are numbers at which the log may begin just as well, without any record, as a Reset was under way; gone is up to where a Drop was under way.
	loosened []int
	gone     int
}

func (p *promise) last() int { return p.first + len(p.all) - 1 }

// keep counts the firm ones anew, where only so many are left.
func (p *promise) keep(n int) {
	p.firm = min(p.firm, n)
}

// told checks what was opened behind a fall.
func (p *promise) told(t *testing.T, what any, l *Log) {
	t.Helper()
	got := texts(l)
	if len(got) == 0 && slices.Contains(p.loosened, l.First()) {
		return
	}
	if l.First() < p.first || l.First() > max(p.first, p.gone) {
		t.Fatalf("%v: it begins with %d, not with %d", what, l.First(), p.first)
	}
	behind := min(l.First()-p.first, len(p.all))
	if !begins(got, p.all[behind:]) || behind+len(got) < p.firm {
		t.Fatalf("%v: %d records of %d, from %d on; %d are firm", what, len(got), len(p.all), behind, p.firm)
	}
}

// is what was opened: all of it is firm.
func (p *promise) is(l *Log) {
	*p = promise{first: l.First(), all: texts(l)}
	p.firm = len(p.all)
}

// calls does a step on a log, and follows it: what it promises if it answered OK, and if power failed meanwhile.
func (p *promise) calls(l *Log, s step, mark byte) {
	switch s.what {
	case "append":
		text := wide(mark, s.n)
		err := l.Append([]byte(text))
		if err == api.OK || err == api.ErrOff {
			p.all = append(p.all, text)
		}
	case "sync":
		if l.Sync() == api.OK {
			p.firm = len(p.all)
		}
	case "cut", "cutfirst":
		p.cut(l, s)
	case "drop":
		p.drop(l, p.first+s.n)
	case "reset":
		p.reset(l, s.n)
	}
}

func (p *promise) cut(l *Log, s step) {
	i := p.last() + s.n
	if s.what == "cutfirst" {
		i = p.first + s.n
	}
	switch l.Cut(i) {
	case api.OK:
		p.all = p.all[:i-p.first]
		p.keep(i - p.first)
	case api.ErrOff:
		p.keep(i - p.first)
	}
}

func (p *promise) drop(l *Log, i int) {
	if l.Drop(i) == api.ErrOff {
		p.gone = i
		return
	}
	if n := l.First() - p.first; n > 0 && l.First() <= i {
		p.first = l.First()
		p.all = p.all[n:]
		p.firm = max(p.firm-n, 0)
	}
}

func (p *promise) reset(l *Log, i int) {
	switch l.Reset(i) {
	case api.OK:
		*p = promise{first: i}
	case api.ErrOff:
		p.keep(0)
		p.loosened = []int{1, i}
	}
}

// reopens opens a log till power does not fail meanwhile; a Cut or a Sync that is not done changes nothing of what it must tell.
func reopens(t *testing.T, d *disk.Disk, draw func(n int) int) *Log {
	t.Helper()
	for {
		d.Start()
		if draw(2) == 0 {
			d.Arm(draw(3), uint64(draw(3000)))
		}
		l, err := Open(d)
		if err == api.OK {
			return l
		}
		if err != api.ErrOff {
			t.Fatalf("Open: %d", err)
		}
	}
}

// Of rows of calls, with power failing anywhere, also while a log is opened: what was synced is told, and of the others a beginning.
func TestWhatFollows(t *testing.T) {
	falls := 0
	for start := range 1500 {
		draw := draws(start + 5000)
		d := disk.New([]int{3000, 20000, manyBytes}[start%3])
		p := &promise{first: 1}
		l := reopens(t, d, draw)
		for n, s := range longRow(start+7000, 100) {
			switch s.what {
			case "arm":
				d.Arm(s.n, s.keep)
			case "crash":
				d.Crash(s.keep)
			case "open":
				was := d.Falls()
				l = reopens(t, d, draw)
				if d.Falls() == was {
					has(t, l, p.first, p.all...)
				}
				p.told(t, s, l)
				p.is(l)
			default:
				p.calls(l, s, byte(n))
			}
			if !d.Up() {
				falls++
				l = reopens(t, d, draw)
				p.told(t, s, l)
				p.is(l)
			}
			if l.First() != p.first || l.Last() != p.last() {
				t.Fatalf("row %d, %v: %d to %d, not %d to %d", start, s, l.First(), l.Last(), p.first, p.last())
			}
		}
	}
	if falls < 1000 {
		t.Errorf("power failed %d times alone", falls)
	}
}

// A beginning of a frame is no frame: wherever a row of loose records is torn, those that are whole are told.
func TestWhereverTorn(t *testing.T) {
	all := []string{"a", "", "bc", wide('x', 40), "d", "", ""}
	whole := frames(1, all...)
	for n := range len(whole) + 1 {
		d := disk.New(manyBytes)
		l := opened(t, d)
		put(t, l, all...)
		restarted(d, uint64(n))
		left := all
		for len(frames(1, left...)) > n {
			left = left[:len(left)-1]
		}
		has(t, opened(t, d), 1, left...)
		hasFiles(t, d, "log.000001", frames(1, left...))
	}
}

// So it is in a segment behind others, and with nothing kept of it.
func TestWhereverTornBehind(t *testing.T) {
	all := append(manyHalves(4), "e", "f")
	tail := len(frames(5, "e", "f"))
	for n := range tail + 1 {
		d, l, _ := halves(t, 4)
		put(t, l, "e", "f")
		// The third file by its name has a third of what is kept.
		restarted(d, uint64(3*n))
		want := 4 + n/(tail/2)
		has(t, opened(t, d), 1, all[:want]...)
	}
}
