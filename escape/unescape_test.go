package escape

import (
	"strings"
	"testing"
)

func TestUnescapeCases(t *testing.T) {
	cases := []struct{ text, want string }{
		{"", ""},
		{"a", "a"},
		{`\*a\b&amp;&copy;`, "*a\\b&\u00a9"},
		{`\`, `\`},
		{`a\`, `a\`},
		{`\\`, `\`},
		{`\\\`, `\\`},
		{`\\\\`, `\\`},
		{`\\*`, `\*`},
		{`\&amp;`, "&amp;"},
		{`\\&amp;`, `\&`},
		{`&amp\;`, "&amp;"},
		{`&\amp;`, `&\amp;`},
		{`\ `, `\ `},
		{"\\\n", "\\\n"},
		{"\\\u00e4", "\\\u00e4"},
		{"\\\u00a7\\\u2190", "\\\u00a7\\\u2190"},
		{"\\\xff\\\x00", "\\\xff\\\x00"},
		{"&amp;amp;", "&amp;"},
		{"&#38;amp;", "&amp;"},
		{"&#92;*", `\*`},
		{"&#92;&#42;", `\*`},
		{"&&amp;&", "&&&"},
		{"&amp", "&amp"},
		{"&nope;", "&nope;"},
		{"&#x110000;&#0;", "\ufffd\ufffd"},
		{"&ngE;&nvlt;", "\u2267\u0338<\u20d2"},
		{"\u00e4&auml;\u20ac", "\u00e4\u00e4\u20ac"},
		{"\xff&lt;\x00", "\xff<\x00"},
	}
	for _, c := range cases {
		if got := Unescape(c.text); got != c.want {
			t.Errorf("Unescape(%q) is %q, not %q", c.text, got, c.want)
		}
	}
}

const allMarks = "!\"#$%&'()*+,-./:;<=>?@[\\]^_`{|}~"

func TestUnescapeEveryByteBehindABackslash(t *testing.T) {
	for i := 0; i < 256; i++ {
		one := string([]byte{byte(i)})
		want := "a\\" + one + "b"
		if strings.Contains(allMarks, one) {
			want = "a" + one + "b"
		}
		if got := Unescape("a\\" + one + "b"); got != want {
			t.Errorf("Unescape of %q behind a backslash is %q, not %q", one, got, want)
		}
	}
}

// unescape is B3 said by cutting the text's front off, again and again.
func (r *reader) unescape(s string) string {
	if s == "" {
		return ""
	}
	if len(s) > 1 && s[0] == '\\' && strings.IndexByte(allMarks, s[1]) >= 0 {
		return s[1:2] + r.unescape(s[2:])
	}
	if text, size := r.entity(s); size > 0 {
		return text + r.unescape(s[size:])
	}
	return s[:1] + r.unescape(s[1:])
}

func TestUnescapeShortTexts(t *testing.T) {
	r := newReader(t)
	pieces := []string{"&", "#", "x", ";", "9", "a", "lt", "amp;", "\\", "*", "\xff", "\u00e4"}
	eachText(pieces, 5, func(s string) {
		if got, want := Unescape(s), r.unescape(s); got != want {
			t.Fatalf("Unescape(%q) is %q, not %q", s, got, want)
		}
	})
}

// What follows, of B1 and B3: Unescape takes back what HTML wrote.
func TestUnescapeTakesHTMLBack(t *testing.T) {
	pieces := []string{"a", "<", ">", "\"", "'", ";", "#", "amp;", "lt", " ", "\u00e4", "\xff", "\x00"}
	eachText(pieces, 4, func(s string) {
		if got := Unescape(HTML(s)); got != s {
			t.Fatalf("Unescape(HTML(%q)) is %q", s, got)
		}
		if got := Unescape(s); got != s {
			t.Fatalf("Unescape(%q) is %q", s, got)
		}
	})
}

// Rows of what looks like the beginning of a reference must not take longer by the square.
func TestLongTexts(t *testing.T) {
	for _, piece := range []string{"&", "&a", "&#", "&#x", "&#1", "\\", "\\\\&", "&amp;", "<", "\xff"} {
		s := strings.Repeat(piece, 1<<20/len(piece))
		Unescape(s)
		Entity(s)
		if len(HTML(s)) < len(s) || len(URL(s)) < len(s) {
			t.Errorf("of a row of %q something is left out", piece)
		}
	}
	long := "&" + strings.Repeat("a", 1<<20)
	if got := Unescape(long); got != long {
		t.Errorf("a long name that is none changes")
	}
}
