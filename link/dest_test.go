package link

import (
	"regexp"
	"testing"

	"scriptorium/escape"
)

func TestDestCases(t *testing.T) {
	cases := map[string]told{
		"<a b>c":  {"a b", 5},
		"a(b)c)d": {"a(b)c", 5},
		"a(b":     {},
		"<a":      {},
		"\\(x y":  {"(x", 3},

		"":                   {},
		"<":                  {},
		"<>":                 {"", 2},
		"<>a":                {"", 2},
		"<>>":                {"", 2},
		"<<>":                {},
		"<<>>":               {},
		"<a<b>":              {},
		"<a>b>":              {"a", 3},
		"<a\\<b\\>c>":        {"a<b>c", 9},
		"<\\>":               {},
		"<\\>>":              {">", 4},
		"<\\\\>":             {"\\", 4},
		"<\\\\>>":            {"\\", 4},
		"<\\\\\\>":           {},
		"<\\\\<>":            {},
		"<\\a>":              {"\\a", 4},
		"<\\ >":              {"\\ ", 4},
		"<a\nb>":             {},
		"<a\\\nb>":           {},
		"<\n>":               {},
		"<a>\n":              {"a", 3},
		"<a\rb>":             {"a\rb", 5},
		"<\t a \t>":          {"\t a \t", 7},
		"<\x00\x7f>":         {"\x00\x7f", 4},
		"<(>":                {"(", 3},
		"<)(>":               {")(", 4},
		"<&lt;&gt;>":         {"<>", 10},
		"<&#10;>":            {"\n", 7},
		"<&amp>":             {"&amp", 6},
		"<\\&amp;>":          {"&amp;", 8},
		"<\u00e4\xff>":       {"\u00e4\xff", 5},
		"<a\u00a0b>":         {"a\u00a0b", 6},
		"\\<a>":              {"<a>", 4},
		">":                  {">", 1},
		"a<b>c":              {"a<b>c", 5},
		"a<":                 {"a<", 2},
		" ":                  {},
		" a":                 {},
		"\ta":                {},
		"\na":                {},
		"\x00":               {},
		"\x7f":               {},
		"\x7fa":              {},
		"a":                  {"a", 1},
		"a b":                {"a", 1},
		"a\tb":               {"a", 1},
		"a\nb":               {"a", 1},
		"a\rb":               {"a", 1},
		"a\x00b":             {"a", 1},
		"a\x1fb":             {"a", 1},
		"a\x7fb":             {"a", 1},
		"a\u0080b":           {"a\u0080b", 4},
		"a\u00a0b":           {"a\u00a0b", 4},
		"\u00e4\xff\x80":     {"\u00e4\xff\x80", 4},
		"!":                  {"!", 1},
		"\\":                 {"\\", 1},
		"a\\":                {"a\\", 2},
		"\\ a":               {"\\", 1},
		"\\\n":               {"\\", 1},
		"\\\x7f":             {"\\", 1},
		"\\\\ a":             {"\\", 2},
		"\\*\\a":             {"*\\a", 4},
		"&amp;":              {"&", 5},
		"&#32;b":             {" b", 6},
		"&#40;":              {"(", 5},
		"a&#41;":             {"a)", 6},
		"&auml;&x;":          {"\u00e4&x;", 9},
		"&\\amp;":            {"&\\amp;", 6},
		"\\&amp;":            {"&amp;", 6},
		"()":                 {"()", 2},
		"(":                  {},
		")":                  {},
		")a":                 {},
		"a)":                 {"a", 1},
		"a))":                {"a", 1},
		"(a)b)":              {"(a)b", 4},
		"(a(b)c)d":           {"(a(b)c)d", 8},
		"(a(b)c":             {},
		"((a)":               {},
		"(a b)":              {},
		"a(\nb)":             {},
		"a(\x7f)":            {},
		")(":                 {},
		"a)(":                {"a", 1},
		"()(":                {},
		"()()":               {"()()", 4},
		"\\)":                {")", 2},
		"\\)a)":              {")a", 3},
		"\\(\\(":             {"((", 4},
		"(\\)":               {},
		"(\\))":              {"())", 4},
		"(\\()":              {"(()", 4},
		"\\\\(":              {},
		"\\\\)":              {"\\", 2},
		"\\\\()":             {"\\()", 4},
		"a\\\\)b":            {"a\\", 3},
		"\\a(":               {},
		"\\a)":               {"\\a", 2},
		"/u \"t\"":           {"/u", 2},
		"/u\"t\"":            {"/u\"t\"", 5},
		"/url?a=1&amp;b=2#c": {"/url?a=1&b=2#c", 18},
		"a[b]c":              {"a[b]c", 5},
		"foo%20b&auml;":      {"foo%20b\u00e4", 13},
	}
	for s, want := range cases {
		dest().check(t, s, want)
	}
}

// TestDestOpenBrackets: 32 may be open at once, and not one more.
func TestDestOpenBrackets(t *testing.T) {
	open := func(n int) string { return many("(", n) }
	shut := func(n int) string { return many(")", n) }
	for n := range 40 {
		s := open(n) + "a" + shut(n)
		want := told{s, len(s)}
		if n > 32 {
			want = told{}
		}
		dest().check(t, s, want)
		dest().check(t, s+" b", want)
		dest().check(t, s+")", want)
		dest().check(t, "b"+s, told{"b" + want.text, want.size + 1}.ifSome(want))
		dest().check(t, s+s, told{want.text + want.text, 2 * want.size})
		if n > 0 {
			dest().check(t, s[:len(s)-1], told{})
		}
	}
	cases := map[string]int{
		open(31) + many("()", 40) + shut(31):               142,
		open(32) + "()" + shut(32):                         0,
		open(31) + "(a)(b)" + shut(31):                     68,
		open(32) + "\\(\\(\\)\\)" + shut(32):               72,
		open(33) + "\\)" + shut(32):                        0,
		many("()", 100):                                    200,
		many("\\(", 100):                                   200,
		open(32) + shut(33):                                64,
		open(33) + shut(34):                                0,
		open(33) + " ":                                     0,
		open(16) + shut(8) + open(24) + shut(32):           80,
		open(16) + shut(8) + open(25) + shut(33):           0,
		open(32) + shut(32) + open(32) + shut(32) + "a":    129,
		open(32) + shut(32) + open(33) + shut(33):          0,
		shut(1) + open(33):                                 0,
		"a" + shut(1) + open(33):                           1,
		"a " + open(33):                                    1,
		"\\\\" + open(32) + shut(32):                       66,
		"<" + open(33) + ">":                               35,
		open(32) + "&#40;" + shut(32):                      69,
		open(32) + shut(1) + "(" + shut(32) + "x" + "\x7f": 67,
	}
	for s, want := range cases {
		if _, n := Dest(s); n != want {
			t.Errorf("Dest(%q) has %d bytes, not %d", s, n, want)
		}
	}
}

// ifSome is what is told, but nothing, if another is nothing.
func (w told) ifSome(other told) told {
	if other.size == 0 {
		return told{}
	}
	return w
}

// TestDestEveryByte: a byte at the front, among others, behind a backslash, in either kind.
func TestDestEveryByte(t *testing.T) {
	eachByte(func(c string) {
		stops := c <= " " || c == "\x7f"
		among := told{"a" + c + "b", 3}
		switch {
		case stops || c == ")":
			among = told{"a", 1}
		case c == "(":
			among = told{}
		case c == "\\":
			among = told{"a\\b", 3}
		}
		dest().check(t, "a"+c+"b", among)

		behind := told{"a" + unescaped(c) + "b", 4}
		if stops {
			behind = told{"a\\", 2}
		}
		dest().check(t, "a\\"+c+"b", behind)

		framed := told{"a" + c + "b", 5}
		switch c {
		case "\n", "<":
			framed = told{}
		case ">":
			framed = told{"a", 3}
		}
		dest().check(t, "<a"+c+"b>", framed)

		escaped := told{"a" + unescaped(c) + "b", 6}
		if c == "\n" {
			escaped = told{}
		}
		dest().check(t, "<a\\"+c+"b>", escaped)

		first := told{c + "b", 2}
		switch {
		case stops, c == "(", c == ")", c == "<":
			first = told{}
		}
		dest().check(t, c+"b", first)
		dest().check(t, "<b>"+c, told{"b", 3})
	})
}

// destByHand is another reading of F2: parts within parts, of which each pair of brackets is one.
type destByHand struct {
	framed, part *regexp.Regexp
}

func newDestByHand() destByHand {
	return destByHand{
		regexp.MustCompile(`^<((?:[^<>\n\\]|\\[^\n])*)>`),
		regexp.MustCompile(`^(?:\\[[:punct:]]|[^\x00-\x20\x7f()])+`),
	}
}

// parts is how much of a text is parts, at so many open brackets; -1, if there are too many, or one stays open.
func (d destByHand) parts(s string, open int) int {
	if open > 32 {
		return -1
	}
	n := len(d.part.FindString(s))
	if n == len(s) || s[n] != '(' {
		return n
	}
	in := d.parts(s[n+1:], open+1)
	if in < 0 || n+1+in == len(s) || s[n+1+in] != ')' {
		return -1
	}
	n += in + 2
	rest := d.parts(s[n:], open)
	if rest < 0 {
		return -1
	}
	return n + rest
}

func (d destByHand) told(s string) told {
	if m := d.framed.FindStringSubmatch(s); m != nil {
		return told{escape.Unescape(m[1]), len(m[0])}
	}
	if s == "" || s[0] == '<' {
		return told{}
	}
	n := d.parts(s, 0)
	if n < 1 {
		return told{}
	}
	return told{escape.Unescape(s[:n]), n}
}

func TestDestByHand(t *testing.T) {
	d := newDestByHand()
	found := 0
	check := func(s string) {
		want := d.told(s)
		if want.size > 0 {
			found++
		}
		dest().check(t, s, want)
	}
	eachText([]string{"(", ")", "\\", "<", ">", "a", " ", "\n"}, 6, check)
	eachText([]string{"((((((((", "))))))))", "(", ")", "\\"}, 7, check)
	eachFrame([]string{"@", "@@", "a@b", "@a", "(@)", "\\@)", "(\\@)", "<@>", "<@", "<\\@>", "<\\\\@>", "a\\@", "@<a>", "<a>@", "a\\\\@b"}, check)
	if found < 1000 {
		t.Errorf("found only %d", found)
	}
}
