package runes

import (
	"bytes"
	"strings"
	"testing"
	"unicode/utf8"
)

const unknown = "\ufffd"

func TestCleanCases(t *testing.T) {
	cases := []struct{ name, bytes, want string }{
		{"nothing", "", ""},
		{"ASCII", "plain text\r\n\t~\x7f", "plain text\r\n\t~\x7f"},
		{"the chapter's example", "\x61\x00\xe4\xc3\xa4", "a" + unknown + unknown + "ä"},
		{"one to four bytes", "a\u00e4\u20ac\U0001f600", "a\u00e4\u20ac\U0001f600"},
		{"first and last of two bytes", "\u0080\u07ff", "\u0080\u07ff"},
		{"first and last of three bytes", "\u0800\uffff", "\u0800\uffff"},
		{"first and last of four bytes", "\U00010000\U0010ffff", "\U00010000\U0010ffff"},
		{"around the halves", "\ud7ff\ue000", "\ud7ff\ue000"},
		{"U+FFFD itself", unknown, unknown},
		{"zeros", "\x00a\x00\x00", unknown + "a" + unknown + unknown},
		{"first half", "\xed\xa0\x80", strings.Repeat(unknown, 3)},
		{"last half", "\xed\xbf\xbf", strings.Repeat(unknown, 3)},
		{"a pair of halves", "\xed\xa0\xbd\xed\xb8\x80", strings.Repeat(unknown, 6)},
		{"zero in two bytes", "\xc0\x80", strings.Repeat(unknown, 2)},
		{"longest of two that fits one", "\xc1\xbf", strings.Repeat(unknown, 2)},
		{"longest of three that fits two", "\xe0\x9f\xbf", strings.Repeat(unknown, 3)},
		{"longest of four that fits three", "\xf0\x8f\xbf\xbf", strings.Repeat(unknown, 4)},
		{"110000", "\xf4\x90\x80\x80", strings.Repeat(unknown, 4)},
		{"1FFFFF", "\xf7\xbf\xbf\xbf", strings.Repeat(unknown, 4)},
		{"five bytes", "\xf8\x88\x80\x80\x80", strings.Repeat(unknown, 5)},
		{"no first bytes", "\x80\xbf\xfe\xff", strings.Repeat(unknown, 4)},
		{"cut off at the end", "a\xe2\x82", "a" + unknown + unknown},
		{"cut off by another", "\xf0\x9f\x98a\xc3\xa4\xc3", strings.Repeat(unknown, 3) + "aä" + unknown},
		{"zero within a character", "\xe2\x00\xac", strings.Repeat(unknown, 3)},
	}
	for _, c := range cases {
		if got := Clean([]byte(c.bytes)); got != c.want {
			t.Errorf("%s: Clean(%x) is %q, not %q", c.name, c.bytes, got, c.want)
		}
	}
	if got := Clean(nil); got != "" {
		t.Errorf("Clean(nil) is %q", got)
	}
}

func TestCleanEveryCharacter(t *testing.T) {
	for r := rune(1); r <= utf8.MaxRune; r++ {
		if r >= 0xd800 && r <= 0xdfff {
			continue
		}
		if s := string(r); Clean([]byte(s)) != s {
			t.Fatalf("Clean changes %U", r)
		}
	}
}

// TestCleanAnyBytes holds Clean against a reading of A1 that leans on none of the language's own UTF-8.
func TestCleanAnyBytes(t *testing.T) {
	var b []byte
	var every func(values []byte, left int)
	every = func(values []byte, left int) {
		checkClean(t, b)
		if left == 0 {
			return
		}
		for _, c := range values {
			b = append(b, c)
			every(values, left-1)
			b = b[:len(b)-1]
		}
	}
	all := make([]byte, 256)
	for i := range all {
		all[i] = byte(i)
	}
	every(all, 2)
	edges := []byte{0x00, 0x41, 0x7f, 0x80, 0x8f, 0x90, 0x9f, 0xa0, 0xbf, 0xc0, 0xc1, 0xc2, 0xdf, 0xe0, 0xe1, 0xec, 0xed, 0xee, 0xef, 0xf0, 0xf1, 0xf3, 0xf4, 0xf5, 0xf7, 0xf8, 0xff}
	every(edges, 4)
}

func checkClean(t *testing.T, b []byte) {
	got := Clean(b)
	if want := cleanByHand(b); got != want {
		t.Fatalf("Clean(%x) is %x, not %x", b, got, want)
	}
	if !utf8.ValidString(got) || strings.Contains(got, "\x00") {
		t.Fatalf("Clean(%x) is %x: not right, or with 0", b, got)
	}
	if again := Clean([]byte(got)); again != got {
		t.Fatalf("Clean of %x, which it told, is %x", got, again)
	}
}

func cleanByHand(b []byte) string {
	var out []byte
	for len(b) > 0 {
		n := characterByHand(b)
		if n == 0 || b[0] == 0 {
			out = append(out, 0xef, 0xbf, 0xbd)
			n = 1
		} else {
			out = append(out, b[:n]...)
		}
		b = b[n:]
	}
	return string(out)
}

// characterByHand is how many bytes the character has that stands at the front; 0, if there is none.
func characterByHand(b []byte) int {
	forms := []struct {
		bits, mask  byte
		n           int
		first, last int
	}{
		{0x00, 0x80, 1, 0, 0x7f},
		{0xc0, 0xe0, 2, 0x80, 0x7ff},
		{0xe0, 0xf0, 3, 0x800, 0xffff},
		{0xf0, 0xf8, 4, 0x10000, 0x10ffff},
	}
	for _, f := range forms {
		if b[0]&f.mask != f.bits || len(b) < f.n {
			continue
		}
		number := int(b[0] &^ f.mask)
		for _, c := range b[1:f.n] {
			if c&0xc0 != 0x80 {
				return 0
			}
			number = number<<6 | int(c&0x3f)
		}
		if number < f.first || number > f.last || number >= 0xd800 && number <= 0xdfff {
			return 0
		}
		return f.n
	}
	return 0
}

func TestCleanLeavesItsBytes(t *testing.T) {
	b := []byte("a\x00\xffb")
	kept := bytes.Clone(b)
	got := Clean(b)
	if !bytes.Equal(b, kept) {
		t.Errorf("Clean wrote over its bytes: %x", b)
	}
	copy(b, "xxxx")
	if got != "a"+unknown+unknown+"b" {
		t.Errorf("what Clean told changed with its bytes: %q", got)
	}
}
