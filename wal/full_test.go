package wal

import (
	"testing"

	"scriptorium/api"
	"scriptorium/disk"
)

// A disk that is full: no record more, and all stays as it was; what there is room for still comes.
func TestFull(t *testing.T) {
	for room := range 60 {
		d := disk.New(room)
		l := opened(t, d)
		var all []string
		for i := range 8 {
			text := wide(byte(i), (i*5)%7)
			was := content(d)
			if err := l.Append([]byte(text)); err == api.OK {
				all = append(all, text)
			} else if err != api.ErrFull || d.Used()+len(text)+8 <= room {
				t.Fatalf("room %d, used %d: Append of %d bytes: %d", room, d.Used(), len(text), err)
			} else {
				hasFiles(t, d, was...)
			}
			has(t, l, 1, all...)
			hasFiles(t, d, "log.000001", frames(1, all...))
		}
		has(t, opened(t, d), 1, all...)
		answers(t, "Sync", l.Sync(), api.OK)
		has(t, opened(t, restarted(d, 0)), 1, all...)
	}
}

// Where a new segment would be made there is none; the full one was synced, and stays the last one.
func TestFullAtANewSegment(t *testing.T) {
	d := disk.New(api.SegBytes + 8)
	l := opened(t, d)
	two := manyHalves(2)
	put(t, l, two...)
	answers(t, "Append", l.Append([]byte("c")), api.ErrFull)
	answers(t, "Append", l.Append([]byte("c")), api.ErrFull)
	has(t, l, 1, two...)
	hasFiles(t, d, "log.000001", frames(1, two...))
	put(t, l, "")
	answers(t, "Append", l.Append(nil), api.ErrFull)
	has(t, l, 1, two[0], two[1], "")
	hasFiles(t, d, "log.000001", frames(1, two...), "log.000003", framed(3, ""))

	d = disk.New(api.SegBytes)
	l = opened(t, d)
	put(t, l, two...)
	answers(t, "Append", l.Append(nil), api.ErrFull)
	has(t, opened(t, restarted(d, 0)), 1, two...)
}

// Power may fail at the full segment's Sync, but not behind it, as what there is no room for is no deed.
func TestFullAndPowerFails(t *testing.T) {
	two := manyHalves(2)
	for after, want := range []api.Errno{api.ErrOff, api.ErrFull, api.ErrFull} {
		d := disk.New(api.SegBytes)
		l := opened(t, d)
		put(t, l, two...)
		d.Arm(after, 0)
		answers(t, "Append", l.Append([]byte("c")), want)
		if d.Up() != (after > 0) {
			t.Errorf("behind %d deeds: up %v", after, d.Up())
		}
		d.Start()
		left := two
		if after == 0 {
			left = nil
		}
		has(t, opened(t, restarted(d, 0)), 1, left...)
	}
}

// What is taken away leaves room again.
func TestFullAndRoomAgain(t *testing.T) {
	for what, free := range map[string]func(l *Log) api.Errno{
		"Cut":   func(l *Log) api.Errno { return l.Cut(4) },
		"Drop":  func(l *Log) api.Errno { return l.Drop(4) },
		"Reset": func(l *Log) api.Errno { return l.Reset(5) },
	} {
		d := disk.New(2 * api.SegBytes)
		l := opened(t, d)
		put(t, l, manyHalves(4)...)
		answers(t, "Append", l.Append(nil), api.ErrFull)
		answers(t, what, free(l), api.OK)
		first, all := l.First(), texts(l)
		put(t, l, half('n'))
		has(t, l, first, append(all, half('n'))...)
		has(t, opened(t, d), first, append(all, half('n'))...)
	}
}

// A log can be opened, cut, dropped and reset on a disk without any room left.
func TestFullElse(t *testing.T) {
	four := manyHalves(4)
	ready := func() *Log {
		d := disk.New(2*api.SegBytes + 4)
		l := opened(t, d)
		put(t, l, four...)
		answers(t, "Append to another file", d.Append("other", []byte("full")), api.OK)
		return opened(t, d)
	}
	l := ready()
	answers(t, "Cut", l.Cut(2), api.OK)
	has(t, l, 1, four[:1]...)
	l = ready()
	answers(t, "Drop", l.Drop(3), api.OK)
	has(t, l, 3, four[2:]...)
	l = ready()
	answers(t, "Reset", l.Reset(9), api.OK)
	has(t, l, 9)
	l = ready()
	answers(t, "Sync", l.Sync(), api.OK)
	has(t, l, 1, four...)

	d := disk.New(4)
	answers(t, "Append to another file", d.Append("other", []byte("full")), api.OK)
	has(t, opened(t, d), 1)
}
