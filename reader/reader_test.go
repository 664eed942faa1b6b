package reader

import (
	"encoding/binary"
	"errors"
	"fmt"
	"math"
	"slices"
	"strings"
	"testing"

	"scriptorium/api"
)

// gaveUp does it, and is the place at which it gave up; -1, if it did not.
func gaveUp(t *testing.T, do func()) (at int) {
	t.Helper()
	defer func() {
		if p := recover(); p != nil {
			f, ok := Fault(p).(*api.Fault)
			if !ok || f == nil || !errors.Is(f, api.ErrCode) {
				t.Fatalf("it gave up by %#v", p)
			}
			at = f.At
		}
	}()
	do()
	return -1
}

// reads: what do reads of r is told as want, and r is at the place at then.
func reads(t *testing.T, r *Reader, want string, at int, do func() any) {
	t.Helper()
	var got any
	if gave := gaveUp(t, func() { got = do() }); gave != -1 || fmt.Sprintf("%#v", got) != want || r.at != at {
		t.Errorf("%#v, at %d, was read, not %s, at %d; it gave up at %d", got, r.at, want, at, gave)
	}
}

// refuses: it gives up where r is, and stays there.
func refuses(t *testing.T, r *Reader, what string, do func()) {
	t.Helper()
	was := r.at
	if at := gaveUp(t, do); at != was || r.at != was {
		t.Errorf("%s at %d of %q gave up at %d, and is at %d", what, was, r.b, at, r.at)
	}
}

func TestInARow(t *testing.T) {
	r := New([]byte("S\xac\x02\x02ab\x00\x7fx"))
	reads(t, r, "true", 1, func() any { r.Byte('S'); return true })
	reads(t, r, "300", 3, func() any { return r.Number(300) })
	reads(t, r, `"ab"`, 6, func() any { return r.Text(2) })
	reads(t, r, `""`, 7, func() any { return r.Text(0) })
	reads(t, r, "127", 8, func() any { return r.Number(math.MaxInt) })
	refuses(t, r, "End", r.End)
	reads(t, r, "true", 9, func() any { r.Byte('x'); return true })
	reads(t, r, "true", 9, func() any { r.End(); return true })
	refuses(t, r, "Byte", func() { r.Byte('x') })
	refuses(t, r, "Number", func() { r.Number(9) })
	refuses(t, r, "Text", func() { r.Text(9) })
}

func TestOfNothing(t *testing.T) {
	for _, b := range [][]byte{nil, {}} {
		r := New(b)
		refuses(t, r, "Byte", func() { r.Byte(0) })
		refuses(t, r, "Number", func() { r.Number(0) })
		refuses(t, r, "Text", func() { r.Text(0) })
		reads(t, r, "true", 0, func() any { r.End(); return true })
	}
}

func TestByte(t *testing.T) {
	for c := range 256 {
		for d := range 256 {
			r := New([]byte{0, byte(d), 7})
			r.at = 1
			if c == d {
				reads(t, r, "true", 2, func() any { r.Byte(byte(c)); return true })
			} else {
				refuses(t, r, "Byte", func() { r.Byte(byte(c)) })
			}
		}
	}
}

// A number is read up to the most, and not above it, also where it is more than an int holds.
func TestNumberMost(t *testing.T) {
	for _, most := range []int{0, 1, 2, 5, 127, 128, 999999, 1 << 30, math.MaxInt - 1} {
		for _, ahead := range []string{"", "a", "\x80\x80"} {
			for _, n := range []uint64{0, 1, uint64(most), uint64(most) + 1, uint64(most) + 2, 1<<63 - 1, 1 << 63, 1<<64 - 1} {
				r := New(append(binary.AppendUvarint([]byte(ahead), n), 1))
				r.at = len(ahead)
				if n <= uint64(most) {
					reads(t, r, fmt.Sprint(n), len(r.b)-1, func() any { return r.Number(most) })
				} else {
					refuses(t, r, "Number", func() { r.Number(most) })
				}
			}
		}
	}
}

func TestNumberNone(t *testing.T) {
	for _, b := range []string{"\x80", "\xff", "\x80\x00", "\x81\x00", "\x80\x80\x00\x00", strings.Repeat("\xff", 9) + "\x02", strings.Repeat("\xff", 9) + "\x81\x00", strings.Repeat("\xff", 30)} {
		r := New([]byte("\x01" + b))
		r.at = 1
		refuses(t, r, "Number", func() { r.Number(math.MaxInt) })
		refuses(t, r, "Text", func() { r.Text(math.MaxInt) })
	}
}

func TestTextMost(t *testing.T) {
	for size := range 200 {
		text := strings.Repeat("m", size)
		b := append(binary.AppendUvarint([]byte("ah"), uint64(size)), text+"behind"...)
		for _, most := range []int{-1, 0, size - 1, size, size + 1, 4096} {
			r := New(b)
			r.at = 2
			if size <= most {
				reads(t, r, fmt.Sprintf("%q", text), len(b)-6, func() any { return r.Text(most) })
			} else {
				refuses(t, r, "Text", func() { r.Text(most) })
			}
		}
		cut := New(b[:len(b)-7])
		cut.at = 2
		if size > 0 {
			refuses(t, cut, "Text", func() { cut.Text(4096) })
		}
	}
}

// Number and Text are what a Reader that begins there reads.
func TestAlone(t *testing.T) {
	draw := uint64(1)
	for range 20000 {
		draw = draw*6364136223846793005 + 1442695040888963407
		b := binary.LittleEndian.AppendUint64(nil, draw)[draw>>61:]
		for i := range b {
			b[i] &= []byte{0x83, 0xff, 0x07, 0x80}[(draw>>40)%4]
		}
		if len(b) > 0 && draw>>20%2 == 0 {
			b[len(b)-1] %= 128
		}
		want, size := binary.Uvarint(b)
		if size <= 0 || len(binary.AppendUvarint(nil, want)) != size {
			want, size = 0, 0
		}
		if n, k := Number(b); n != want || k != size {
			t.Fatalf("Number(%v) is %d, %d, not %d, %d", b, n, k, want, size)
		}
		text, end := "", 0
		if size > 0 && want <= uint64(len(b)-size) {
			end = size + int(want)
			text = string(b[size:end])
		}
		if s, k := Text(b, 100); s != text || k != end {
			t.Fatalf("Text(%v) is %q, %d, not %q, %d", b, s, k, text, end)
		}
	}
}

// Numbers up to the greatest there is; one that is none is told as nothing.
func TestNumberAlone(t *testing.T) {
	for _, n := range []uint64{0, 127, 128, 1<<32 - 1, 1 << 32, 1<<63 - 1, 1 << 63, 1<<63 + 1, 1<<64 - 1} {
		b := binary.AppendUvarint(nil, n)
		if got, size := Number(append(b, 0x81)); got != n || size != len(b) {
			t.Errorf("Number(%v) is %d, %d, not %d, %d", b, got, size, n, len(b))
		}
	}
	nines := strings.Repeat("\xff", 9)
	for _, b := range []string{"", "\x80", "\x81", "\x81\x00", "\xff\x80\x00", nines, nines + "\x00", nines + "\x02", nines + "\x7f", nines + "\x80", nines + "\x81\x00", nines + "\xff\x01"} {
		if got, size := Number([]byte(b)); got != 0 || size != 0 {
			t.Errorf("Number(%q) is %d, %d", b, got, size)
		}
		if got, size := Text([]byte(b), math.MaxInt); got != "" || size != 0 {
			t.Errorf("Text(%q) is %q, %d", b, got, size)
		}
	}
}

// What is handed in stays, and what was read does not hang on it.
func TestMemory(t *testing.T) {
	b := []byte("\x03abcd")
	was := slices.Clone(b)
	r := New(b)
	s := r.Text(3)
	alone, _ := Text(b, 3)
	if !slices.Equal(b, was) {
		t.Errorf("it is %q now", b)
	}
	copy(b, "\x01xyz!")
	if s != "abc" || alone != "abc" {
		t.Errorf("what was read is %q, %q now", s, alone)
	}
}

// What reading gives up by is told.
func TestGiveUp(t *testing.T) {
	for _, at := range []int{0, 1, 7, 300000} {
		if got := gaveUp(t, func() { GiveUp(at) }); got != at {
			t.Errorf("it gave up at %d, not at %d", got, at)
		}
	}
	one, two := Fault(unreadable{at: 7}).(*api.Fault), Fault(unreadable{at: 7}).(*api.Fault)
	if *one != (api.Fault{At: 7, Err: api.ErrCode}) || one == two {
		t.Errorf("they are %+v at %p, %p", *one, one, two)
	}
}

// What anything else panics by is not held back.
func TestOtherPanicsGoOn(t *testing.T) {
	for _, p := range []any{"unreadable", 7, api.ErrCode, errors.New("other"), &unreadable{}, struct{ at int }{7}, &api.Fault{}} {
		func() {
			defer func() {
				if got := recover(); got != p {
					t.Errorf("the panic %#v went on as %#v", p, got)
				}
			}()
			t.Errorf("the panic %#v is told as %v", p, Fault(p))
		}()
	}
}
