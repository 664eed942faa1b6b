package disk

import "scriptorium/api"

// Append, Sync, Cut, Rename and Remove are deeds (N2).
func (d *Disk) Append(name string, b []byte) api.Errno {
	switch {
	case !d.up:
		return api.ErrOff
	case !mayName(name):
		return api.ErrArg
	case len(b) > d.room-d.used:
		return api.ErrFull
	}
	f := d.files[name]
	f.bytes = append(f.bytes, b...)
	d.put(name, f)
	// Of all deeds this one alone is done ahead of a fall: some of what was being written may be there behind it.
	if d.fails() {
		return api.ErrOff
	}
	return api.OK
}

func (d *Disk) Sync(name string) api.Errno {
	f, err := d.find(name)
	if err != api.OK {
		return err
	}
	if d.fails() {
		return api.ErrOff
	}
	f.lasts = len(f.bytes)
	d.put(name, f)
	return api.OK
}

func (d *Disk) Cut(name string, n int) api.Errno {
	f, err := d.find(name)
	switch {
	case err != api.OK:
		return err
	case n < 0 || n > len(f.bytes):
		return api.ErrArg
	case d.fails():
		return api.ErrOff
	}
	d.put(name, file{bytes: f.bytes[:n], lasts: min(f.lasts, n)})
	return api.OK
}

// Rename takes the file away ahead of putting it, so that one that is named as it was stays.
func (d *Disk) Rename(from, to string) api.Errno {
	f, err := d.find(from)
	switch {
	case err != api.OK:
		return err
	case !mayName(to):
		return api.ErrArg
	case d.fails():
		return api.ErrOff
	}
	d.drop(from)
	d.put(to, f)
	return api.OK
}

func (d *Disk) Remove(name string) api.Errno {
	_, err := d.find(name)
	if err != api.OK {
		return err
	}
	if d.fails() {
		return api.ErrOff
	}
	d.drop(name)
	return api.OK
}

// mayName tells whether there may be a file of this name.
func mayName(name string) bool {
	return 1 <= len(name) && len(name) <= maxFileName
}

// fails lets power fail, if it is to fail at this deed; else this one is done, and one less is ahead of that.
func (d *Disk) fails() bool {
	if d.ahead == 0 {
		d.fall(d.keep)
		return true
	}
	if d.ahead > 0 {
		d.ahead--
	}
	return false
}
