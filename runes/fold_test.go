package runes

import (
	"strings"
	"testing"
	"unicode/utf8"
)

func TestFoldCases(t *testing.T) {
	cases := []struct{ text, want string }{
		{"", ""},
		{"foo", "foo"},
		{"Foo BAR", "foo bar"},
		{" \u0391\u0393\u03a9\t\n\u1e9e", "\u03b1\u03b3\u03c9 ss"},
		{"@AZ[`az{", "@az[`az{"},
		{"\u00bf\u00c0\u00d6\u00d7\u00d8\u00de", "\u00bf\u00e0\u00f6\u00d7\u00f8\u00fe"},
		{"\u00df", "ss"},
		{"\u1e9e", "ss"},
		{"Stra\u00dfe STRA\u1e9eE", "strasse strasse"},
		{"\u00e0\u00ff", "\u00e0\u00ff"},
		{"\u0390\u0391\u03a9\u03aa", "\u0390\u03b1\u03c9\u03aa"},
		{"\u03a2", "\u03c2"},
		{"\u03ff\u0400\u040f\u0410\u042f\u0430", "\u03ff\u0450\u045f\u0430\u044f\u0430"},
		{"\u1e9d\u1e9f\u0100\u0130\u017f\u212a", "\u1e9d\u1e9f\u0100\u0130\u017f\u212a"},
		{" ", ""},
		{"\t\n\f\r \u00a0\u1680\u2000\u200a\u202f\u205f\u3000", ""},
		{"\u3000a\u2000\u200a\u202fb\u00a0", "a b"},
		{"a \t\r\n b  c", "a b c"},
		{"a\vb", "a\vb"},
		{"\u200ba\u200b", "\u200ba\u200b"},
		{"\\[A\\]", "\\[a\\]"},
		{"\x00A\x00", "\x00a\x00"},
		{"\xc3", unknown},
		{"A\xff \xed\xa0\x80B", "a" + unknown + " " + strings.Repeat(unknown, 3) + "b"},
		{"\xc1\x81\xf4\x90\x80\x80", strings.Repeat(unknown, 6)},
		{" \xa0 ", unknown},
	}
	for _, c := range cases {
		if got := Fold(c.text); got != c.want {
			t.Errorf("Fold(%q) is %q, not %q", c.text, got, c.want)
		}
	}
}

// smallOf tells a character's small letter by what A4 lists, worked out pair by pair and not by ranges.
func smallOf() map[rune]string {
	small := map[rune]string{0xdf: "ss", 0x1e9e: "ss"}
	pairs := []struct {
		first, last, added rune
	}{{'A', 'Z', 0x20}, {0xc0, 0xd6, 0x20}, {0xd8, 0xde, 0x20}, {0x391, 0x3a9, 0x20}, {0x410, 0x42f, 0x20}, {0x400, 0x40f, 0x50}}
	for _, p := range pairs {
		for r := p.first; r <= p.last; r++ {
			small[r] = string(r + p.added)
		}
	}
	return small
}

func TestFoldEveryCharacter(t *testing.T) {
	small := smallOf()
	for r := rune(0); r <= utf8.MaxRune; r++ {
		want := string(r)
		if s, ok := small[r]; ok {
			want = s
		}
		middle := want
		if reached(spaces(), r) {
			want, middle = "", " "
		}
		if r >= 0xd800 && r <= 0xdfff {
			continue
		}
		if got := Fold(string(r)); got != want {
			t.Errorf("Fold(%U) is %q, not %q", r, got, want)
		}
		if got := Fold("x" + string(r) + "y"); got != "x"+middle+"y" {
			t.Errorf("Fold of %U between x and y is %q", r, got)
		}
	}
}

func TestFoldTwice(t *testing.T) {
	for r := rune(0); r <= utf8.MaxRune; r++ {
		checkFoldTwice(t, " a"+string(r)+" "+string(r))
	}
	texts := []string{""}
	for range 5 {
		var longer []string
		for _, s := range texts {
			checkFoldTwice(t, s)
			for _, c := range []string{"A", " ", "\t", "\u00a0", "\u1e9e", "\u0400", "\xe2", "\x80", "\x00"} {
				longer = append(longer, s+c)
			}
		}
		texts = longer
	}
}

func checkFoldTwice(t *testing.T, s string) {
	once := Fold(s)
	if again := Fold(once); again != once {
		t.Errorf("Fold of %q, which it told of %q, is %q", once, s, again)
	}
	if !utf8.ValidString(once) || strings.HasPrefix(once, " ") || strings.HasSuffix(once, " ") || strings.Contains(once, "  ") {
		t.Errorf("Fold(%q) is %q: not right, or with Space at an end or in rows", s, once)
	}
}
