package wal

import (
	"testing"

	"scriptorium/api"
	"scriptorium/disk"
)

// What is appended is not kept, and stays as it was, with what stands behind it.
func TestHandedIn(t *testing.T) {
	d := disk.New(manyBytes)
	l := opened(t, d)
	all := []byte("abcdefgh")
	answers(t, "Append", l.Append(all[:2]), api.OK)
	answers(t, "Append", l.Append(all[2:5]), api.OK)
	if string(all) != "abcdefgh" {
		t.Errorf("what was handed in is %q", all)
	}
	copy(all, "!!!!!!!!")
	has(t, l, 1, "ab", "cde")
	answers(t, "Sync", l.Sync(), api.OK)
	answers(t, "Append", l.Append(all[5:]), api.OK)
	copy(all, "????????")
	has(t, l, 1, "ab", "cde", "!!!")
	has(t, opened(t, d), 1, "ab", "cde", "!!!")

	long := []byte(wide('l', api.MaxRecord+1))
	answers(t, "Append", l.Append(long), api.ErrLong)
	if string(long) != wide('l', api.MaxRecord+1) {
		t.Error("what was refused is something else now")
	}
}

// What comes out is its owner's: written over, or added to, it changes nothing, be it of the log or got elsewhere.
func TestGetApart(t *testing.T) {
	d := disk.New(manyBytes)
	l := opened(t, d)
	put(t, l, "ab", "cde", "", "fg")
	was := content(d)
	var got [][]byte
	for i := 1; i <= 4; i++ {
		for range 2 {
			b, err := l.Get(i)
			answers(t, "Get", err, api.OK)
			got = append(got, b)
		}
	}
	for k, b := range got {
		if k%2 == 0 {
			for i := range b {
				b[i] = '!'
			}
			_ = append(b, "!!!!!!!!!!!!!!!!!!!!"...)
			_ = append(b[:0], "?"...)
		}
	}
	for k, want := range []string{"ab", "cde", "", "fg"} {
		if string(got[2*k+1]) != want {
			t.Errorf("the other one of %d is %q", k+1, got[2*k+1])
		}
	}
	has(t, l, 1, "ab", "cde", "", "fg")
	hasFiles(t, d, was...)
	put(t, l, "hi")
	has(t, opened(t, d), 1, "ab", "cde", "", "fg", "hi")
}

// Nobody writes behind a record: there is no room behind its data.
func TestGetNoRoomBehind(t *testing.T) {
	d := disk.New(manyBytes)
	l := opened(t, d)
	put(t, l, "ab", "", "cde", half('x'), "f")
	for i := l.First(); i <= l.Last(); i++ {
		if b, _ := l.Get(i); cap(b) != len(b) {
			t.Errorf("record %d has %d bytes, and room for %d", i, len(b), cap(b))
		}
	}
}

// What was got stays, whatever becomes of the log.
func TestGetStays(t *testing.T) {
	d := disk.New(manyBytes)
	l := opened(t, d)
	put(t, l, "ab", "cde")
	b, _ := l.Get(2)
	answers(t, "Cut", l.Cut(2), api.OK)
	put(t, l, "CDE")
	answers(t, "Reset", l.Reset(1), api.OK)
	put(t, l, "xxxxxxxxxxxxxx", "yyy")
	d.Crash(0)
	if string(b) != "cde" {
		t.Errorf("it is %q", b)
	}
}
