package runes

import (
	"math"
	"strings"
	"testing"
	"unicode/utf8"
)

// reach is a range of characters, by its first and its last.
type reach struct{ first, last rune }

func spaces() []reach {
	return []reach{{9, 9}, {10, 10}, {12, 12}, {13, 13}, {32, 32}, {0xa0, 0xa0}, {0x1680, 0x1680}, {0x2000, 0x200a}, {0x202f, 0x202f}, {0x205f, 0x205f}, {0x3000, 0x3000}}
}

const marks = "!\"#$%&'()*+,-./:;<=>?@[\\]^_`{|}~"

func puncts() []reach {
	l := []reach{
		{0xa1, 0xa9}, {0xab, 0xb1}, {0xb4, 0xb4}, {0xb6, 0xb8}, {0xbb, 0xbb}, {0xbf, 0xbf}, {0xd7, 0xd7}, {0xf7, 0xf7},
		{0x2010, 0x2027}, {0x2030, 0x205e}, {0x20a0, 0x20c0}, {0x2190, 0x21ff}, {0x3001, 0x3003}, {0x3008, 0x3011},
	}
	for _, r := range marks {
		l = append(l, reach{r, r})
	}
	return l
}

func reached(l []reach, r rune) bool {
	for _, x := range l {
		if x.first <= r && r <= x.last {
			return true
		}
	}
	return false
}

func TestSpace(t *testing.T) { checkKind(t, "Space", Space, spaces()) }
func TestPunct(t *testing.T) { checkKind(t, "Punct", Punct, puncts()) }

func checkKind(t *testing.T, name string, kind func(rune) bool, want []reach) {
	for _, x := range want {
		if !kind(x.first) || !kind(x.last) {
			t.Errorf("%s is false at an end of %U to %U", name, x.first, x.last)
		}
	}
	for r := rune(-0x10000); r <= utf8.MaxRune+0x10000; r++ {
		if kind(r) != reached(want, r) {
			t.Errorf("%s(%#x) is %t", name, r, kind(r))
		}
	}
	// Numbers of no character whose lowest bits are those of one.
	for _, x := range want {
		for _, high := range []rune{math.MinInt32, 0x01000000, 0x40000000, 0x7f000000} {
			if kind(high | x.first) {
				t.Errorf("%s(%#x) is true", name, high|x.first)
			}
		}
	}
	if kind(math.MinInt32) || kind(math.MaxInt32) {
		t.Errorf("%s is true of the least or the greatest number", name)
	}
}

func TestMark(t *testing.T) {
	if len(marks) != 32 {
		t.Fatalf("%d marks", len(marks))
	}
	for i := range 256 {
		c := byte(i)
		if want := strings.IndexByte(marks, c) >= 0; Mark(c) != want {
			t.Errorf("Mark(%#x) is %t", c, Mark(c))
		}
	}
}
