package stable

import (
	"scriptorium/api"
	"scriptorium/parts"
	"scriptorium/wal"
)

// clear removes what a fall left of a file that was being written: what is written behind that would be spoilt. A disk that is not up says so here already.
func (s *Stable) clear(name string) api.Errno {
	err := s.disk.Remove(name + newEnding)
	if err == api.ErrFile {
		return api.OK
	}
	return err
}

func (s *Stable) readHard(saved *api.Saved) api.Errno {
	return s.readFile(hardFile, func(r *reader) {
		saved.Term = r.number(0, api.MaxTerm)
		saved.Vote = r.number(0, api.MaxNodes)
	})
}

func (s *Stable) readSnap(x *api.Snap) api.Errno {
	return s.readFile(snapFile, func(r *reader) {
		x.Index = r.number(1, parts.MaxSnapIndex)
		x.Term = r.number(0, api.MaxTerm)
		x.Nodes = r.group()
		x.Data = r.text(api.MaxState)
	})
}

// readFile hands on what stands in a file ahead of its sum; where there is no such file, nothing was saved.
func (s *Stable) readFile(name string, read func(r *reader)) api.Errno {
	b, err := s.disk.Read(name)
	switch err {
	case api.OK:
	case api.ErrFile:
		return api.OK
	default:
		return err
	}
	summed, right := unsealed(b)
	if !right {
		return api.ErrBad
	}
	r := &reader{rest: summed}
	read(r)
	return r.end()
}

func (s *Stable) openLog() api.Errno {
	var err api.Errno
	s.log, err = wal.Open(s.disk)
	return err
}

// readEntries looks at the records above the snapshot's Index alone: those up to there may be of any kind.
func (s *Stable) readEntries(saved *api.Saved) api.Errno {
	for i := s.index + 1; i <= s.log.Last(); i++ {
		e, err := s.entry(i)
		if err != api.OK {
			return err
		}
		saved.Entries = append(saved.Entries, e)
	}
	return api.OK
}

// entry is the log's record of this number as an entry; ErrBad, if it is no entry's.
func (s *Stable) entry(i int) (api.Entry, api.Errno) {
	b, err := s.log.Get(i)
	if err != api.OK {
		return api.Entry{}, err
	}
	return readEntry(i, b)
}
