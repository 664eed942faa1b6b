package wal

import (
	"slices"

	"scriptorium/api"
)

// Append adds a record, Sync lets all last (O3).
func (l *Log) Append(b []byte) api.Errno {
	switch {
	case len(b) > api.MaxRecord:
		return api.ErrLong
	case l.Last() == api.MaxIndex:
		return api.ErrMany
	}
	s, ahead := l.last(), len(l.segments)-1
	if s.size() >= api.SegBytes {
		// Sync reaches the last segment alone: one that is left behind must last already.
		if err := l.Sync(); err != api.OK {
			return err
		}
		s, ahead = emptySegment(s.next()), len(l.segments)
	}
	f := frame(s.next(), b)
	if err := l.disk.Append(s.name(), f); err != api.OK {
		return err
	}
	s.places = append(s.places, s.size()+len(f))
	l.segments = append(l.segments[:ahead], s)
	return api.OK
}

func (l *Log) Sync() api.Errno {
	return l.disk.Sync(l.last().name())
}

// Cut, Drop and Reset take records away (O4).
func (l *Log) Cut(i int) api.Errno {
	if i < l.First() || i > l.Last()+1 {
		return api.ErrIndex
	}
	for s := range l.fromLast {
		if s.number < i || s.number == l.First() {
			break
		}
		if err := l.removeLast(); err != api.OK {
			return err
		}
	}
	return l.cutLast(i)
}

func (l *Log) Drop(i int) api.Errno {
	for len(l.segments) > 1 && l.segments[1].number <= i {
		if err := l.disk.Remove(l.segments[0].name()); err != api.OK {
			return err
		}
		l.segments = slices.Delete(l.segments, 0, 1)
	}
	return api.OK
}

func (l *Log) Reset(i int) api.Errno {
	if i < 1 || i > api.MaxIndex {
		return api.ErrArg
	}
	for range l.fromLast {
		if err := l.removeLast(); err != api.OK {
			return err
		}
	}
	return l.begin(i)
}

func (l *Log) removeLast() api.Errno {
	if err := l.disk.Remove(l.last().name()); err != api.OK {
		return err
	}
	l.segments = l.segments[:len(l.segments)-1]
	return api.OK
}

// cutLast takes the records from i on out of the last segment, which begins at i or ahead of it.
func (l *Log) cutLast(i int) api.Errno {
	s := l.last()
	if i >= s.next() {
		return api.OK
	}
	if err := l.disk.Cut(s.name(), s.place(i)); err != api.OK {
		return err
	}
	s.places = s.places[:i-s.number+1]
	l.segments[len(l.segments)-1] = s
	return api.OK
}
