package link

import (
	"regexp"
	"testing"

	"scriptorium/api"
)

func TestLabelCases(t *testing.T) {
	cases := map[string]told{
		"[a\\]b]c": {"a\\]b", 6},
		"[]":       {},
		"[ ]":      {},
		"[a[b]]":   {},

		"":                    {},
		"a":                   {},
		"[":                   {},
		"]":                   {},
		"[a":                  {},
		"a]":                  {},
		"a[b]":                {},
		" [a]":                {},
		"![a]":                {},
		"\\[a]":               {},
		"[[a]":                {},
		"[[a]]":               {},
		"[][a]":               {},
		"[a]":                 {"a", 3},
		"[a]]":                {"a", 3},
		"[a][b]":              {"a", 3},
		"[a]:":                {"a", 3},
		"[a](b)":              {"a", 3},
		"[A]":                 {"A", 3},
		"[ a ]":               {" a ", 5},
		"[\ta\n\nb\r]":        {"\ta\n\nb\r", 8},
		"[\n]":                {},
		"[ \t\n\r\x0c ]":      {},
		"[\\]":                {},
		"[\\]]":               {"\\]", 4},
		"[\\[]":               {"\\[", 4},
		"[\\\\]":              {"\\\\", 4},
		"[\\\\]]":             {"\\\\", 4},
		"[\\\\\\]]":           {"\\\\\\]", 6},
		"[\\\\\\]":            {},
		"[\\\\[]":             {},
		"[a\\":                {},
		"[\\a]":               {"\\a", 4},
		"[\\ ]":               {"\\ ", 4},
		"[\\\n]":              {"\\\n", 4},
		"[ \\]":               {},
		"[\\ \\]]":            {"\\ \\]", 6},
		"[&amp;]":             {"&amp;", 7},
		"[&#91;]":             {"&#91;", 7},
		"[\\&amp;]":           {"\\&amp;", 8},
		"[`]`]":               {"`", 3},
		"[<]>]":               {"<", 3},
		"[\u00e4]":            {"\u00e4", 4},
		"[\u1e9e\u03b1]":      {"\u1e9e\u03b1", 7},
		"[\x00]":              {"\x00", 3},
		"[\x0b]":              {"\x0b", 3},
		"[\xff]":              {"\xff", 3},
		"[\xa0]":              {"\xa0", 3},
		"[\xc2]":              {"\xc2", 3},
		"[\u00a0]":            {},
		"[ \u2003\u3000\n]":   {},
		"[\u00a0a\u3000]":     {"\u00a0a\u3000", 8},
		"[\u200b]":            {"\u200b", 5},
		"\uff3ba\uff3d":       {},
		"[a\uff3d":            {},
		"[a\uff3d]":           {"a\uff3d", 6},
		"[foo\n  bar]: /baz":  {"foo\n  bar", 11},
		"[a\n]\nb":            {"a\n", 4},
		"[a\\\\\\[b\\\\]c]d]": {"a\\\\\\[b\\\\", 10},
	}
	for s, want := range cases {
		label().check(t, s, want)
	}
}

// TestLabelSizes: so many bytes, not characters, and each backslash is one.
func TestLabelSizes(t *testing.T) {
	for _, n := range []int{0, 1, 2, 500, api.MaxLabel - 1, api.MaxLabel, api.MaxLabel + 1, api.MaxLabel + 2, 2000} {
		for _, behind := range []string{"", "]", "a", "a]", "[", ":", many("a", 2000) + "]"} {
			s := many("a", n)
			want := told{s, n + 2}
			if n == 0 || n > api.MaxLabel {
				want = told{}
			}
			label().check(t, "["+s+"]"+behind, want)
		}
	}
	cases := map[string]int{
		many("\u00e4", 499) + "a":         api.MaxLabel,
		many("\u00e4", 500):               0,
		many("\\]", 499) + "a":            api.MaxLabel,
		"a" + many("\\]", 499):            api.MaxLabel,
		many("\\]", 500):                  0,
		"a" + many(" ", api.MaxLabel-1):   api.MaxLabel,
		many(" ", api.MaxLabel-1) + "a":   api.MaxLabel,
		many(" ", api.MaxLabel) + "a":     0,
		many(" ", api.MaxLabel):           0,
		many("a", api.MaxLabel-1) + "\\":  0,
		many("a", api.MaxLabel) + "\\]":   0,
		many("a", api.MaxLabel-2) + "\\a": api.MaxLabel,
	}
	for s, n := range cases {
		want := told{s, n + 2}
		if n == 0 {
			want = told{}
		}
		label().check(t, "["+s+"]", want)
	}
}

// TestLabelEveryByte: a byte alone, behind a backslash, and at a label's end.
func TestLabelEveryByte(t *testing.T) {
	eachByte(func(c string) {
		alone, among := told{c, 3}, told{"a" + c + "b", 5}
		switch c {
		case "\t", "\n", "\x0c", "\r", " ", "\\":
			alone = told{}
		case "[":
			alone, among = told{}, told{}
		case "]":
			alone, among = told{}, told{"a", 3}
		}
		label().check(t, "["+c+"]", alone)
		label().check(t, "[a"+c+"b]", among)
		label().check(t, "[\\"+c+"]", told{"\\" + c, 4})
		label().check(t, "[\\\\"+c+"a]", twiceEscapedLabel(c))
		if c != "[" {
			label().check(t, c+"a]", told{})
		}
	})
}

// twiceEscapedLabel is the label of two backslashes, a byte and a letter in brackets.
func twiceEscapedLabel(c string) told {
	switch c {
	case "[":
		return told{}
	case "]":
		return told{"\\\\", 4}
	}
	return told{"\\\\" + c + "a", 6}
}

// labelByPattern is another reading of F1. What stands behind a backslash, mark or not, ends no label.
type labelByPattern struct {
	whole, space *regexp.Regexp
}

func newLabelByPattern() labelByPattern {
	return labelByPattern{
		regexp.MustCompile(`(?s)^\[((?:[^\[\]\\]|\\.)+)\]`),
		regexp.MustCompile(`^[\t\n\f\r \x{a0}\x{1680}\x{2000}-\x{200a}\x{202f}\x{205f}\x{3000}]*$`),
	}
}

func (p labelByPattern) told(s string) told {
	m := p.whole.FindStringSubmatch(s)
	if m == nil || len(m[1]) > 999 || p.space.MatchString(m[1]) {
		return told{}
	}
	return told{m[1], len(m[0])}
}

func TestLabelByPattern(t *testing.T) {
	p := newLabelByPattern()
	found := 0
	check := func(s string) {
		want := p.told(s)
		if want.size > 0 {
			found++
		}
		label().check(t, s, want)
	}
	eachText([]string{"[", "]", "\\", "a", " ", "\n", "\u00a0", "*"}, 6, check)
	eachFrame([]string{"@", "@a]", "[@]", "[a@", "[a@]", "[@a]", "[\\@]", "[\\\\@]", "[\\@\\]]", "[\\@]]", "[a]@", "[ @ ]", "[\xe2\x80@]", "[\xc2@]"}, check)
	if found < 1000 {
		t.Errorf("found only %d", found)
	}
}
