package link

import (
	"regexp"
	"testing"

	"scriptorium/escape"
)

func TestTitleCases(t *testing.T) {
	cases := map[string]told{
		"\"a\\\"b\"": {"a\"b", 6},
		"(a)":        {"a", 3},
		"(a(b)":      {},
		"'a' b":      {"a", 3},

		"":                     {},
		"a":                    {},
		"\"":                   {},
		"'":                    {},
		"(":                    {},
		")":                    {},
		"\"a":                  {},
		"'a":                   {},
		"(a":                   {},
		"a\"":                  {},
		")a(":                  {},
		"\"\"":                 {"", 2},
		"''":                   {"", 2},
		"()":                   {"", 2},
		"\"\"\"":               {"", 2},
		"'''":                  {"", 2},
		"())":                  {"", 2},
		"(()":                  {},
		"(())":                 {},
		"\"a'":                 {},
		"'a\"":                 {},
		"(a\"":                 {},
		"\"a)":                 {},
		"\"'()\"":              {"'()", 5},
		"'\"()'":               {"\"()", 5},
		"(\"')":                {"\"'", 4},
		"\"a\"b\"":             {"a", 3},
		"'a'b'":                {"a", 3},
		"(a)b)":                {"a", 3},
		"(a\\)b)":              {"a)b", 6},
		"(a\\(b)":              {"a(b", 6},
		"'a\\'b'":              {"a'b", 6},
		"'\\\"'":               {"\"", 4},
		"\"\\(\"":              {"(", 4},
		"\"a\\\"":              {},
		"'\\'":                 {},
		"(\\)":                 {},
		"\"\\\\\"":             {"\\", 4},
		"\"\\\\\"\"":           {"\\", 4},
		"\"\\\\\\\"":           {},
		"(\\\\()":              {},
		"(\\\\)":               {"\\", 4},
		"\"\\a\"":              {"\\a", 4},
		"\"\\ \"":              {"\\ ", 4},
		"\"\\":                 {},
		"\"&quot;\"":           {"\"", 8},
		"(&#40;&#41;)":         {"()", 12},
		"'&apos;&x;'":          {"'&x;", 11},
		"'\\&amp;'":            {"&amp;", 8},
		"' a '":                {" a ", 5},
		"'\t'":                 {"\t", 3},
		" 'a'":                 {},
		"\n'a'":                {},
		"\\\"a\"":              {},
		"'\u00e4\xff\x00\x7f'": {"\u00e4\xff\x00\x7f", 7},
		"\u201ca\u201d":        {},
		"<a>":                  {},
		"[a]":                  {},
		"`a`":                  {},
	}
	for s, want := range cases {
		title().check(t, s, want)
	}
}

// TestTitleLines: no line of a title is empty, whatever its bytes stand for.
func TestTitleLines(t *testing.T) {
	cases := map[string]bool{
		"a\nb":                true,
		"a\nb\nc":             true,
		"\n":                  true,
		"\na":                 true,
		"a\n":                 true,
		" \n ":                true,
		"\n \t":               true,
		"\na\n":               true,
		"a\n b \n\tc":         true,
		"a\n\\\nb":            true,
		"a\n.\n":              true,
		"a\n\x0c\nb":          true,
		"a\n\r\nb":            true,
		"a\r\rb":              true,
		"a\r\nb":              true,
		"a\n\u00a0\nb":        true,
		"a\n&#32;\nb":         true,
		"a&#10;&#10;b":        true,
		"\\\n\\\n":            true,
		"\n\n":                false,
		"a\n\nb":              false,
		"a\n \nb":             false,
		"a\n\t\nb":            false,
		"a\n \t \t\nb":        false,
		"\n\na":               false,
		"a\n\n":               false,
		"a\n \n":              false,
		" \n \n ":             false,
		"a\nb\n\nc":           false,
		"a\nb\n \t\nc\nd":     false,
		"a\n\n\nb":            false,
		"a\\\n\nb":            false,
		"a\nb\nc\nd\ne\n \nf": false,
	}
	for in, is := range cases {
		for _, frame := range []string{"\"\"", "''", "()"} {
			s := frame[:1] + in + frame[1:]
			want := told{escape.Unescape(in), len(s)}
			if !is {
				want = told{}
			}
			title().check(t, s, want)
			title().check(t, s+"\n\n", want)
			title().check(t, s+"\n \n"+s, want)
		}
	}
}

// TestTitleEveryByte: a byte at the front, among others, behind a backslash, between two line feeds, in each kind.
func TestTitleEveryByte(t *testing.T) {
	eachByte(func(c string) {
		if c != "\"" && c != "'" && c != "(" {
			for _, end := range []string{"\"", "'", ")", "(", c} {
				title().check(t, c+"a"+end, told{})
			}
		}
		for _, frame := range []string{"\"\"", "''", "()"} {
			first, last := frame[:1], frame[1:]
			among := told{"a" + c + "b", 5}
			switch {
			case c == last:
				among = told{"a", 3}
			case c == first:
				among = told{}
			}
			title().check(t, first+"a"+c+"b"+last, among)
			title().check(t, first+"a\\"+c+"b"+last, told{"a" + unescaped(c) + "b", 6})

			lines := told{"\n" + c + "\n", 5}
			switch c {
			case last:
				lines = told{"\n", 3}
			case " ", "\t", "\n", first:
				lines = told{}
			}
			title().check(t, first+"\n"+c+"\n"+last, lines)
		}
	})
}

// titleByPattern is another reading of F3.
type titleByPattern struct {
	whole, empty *regexp.Regexp
}

func newTitleByPattern() titleByPattern {
	return titleByPattern{
		regexp.MustCompile(`(?s)^(?:"(?:[^"\\]|\\.)*"|'(?:[^'\\]|\\.)*'|\((?:[^()\\]|\\.)*\))`),
		regexp.MustCompile(`\n[ \t]*\n`),
	}
}

func (p titleByPattern) told(s string) told {
	m := p.whole.FindString(s)
	if m == "" || p.empty.MatchString(m) {
		return told{}
	}
	return told{escape.Unescape(m[1 : len(m)-1]), len(m)}
}

func TestTitleByPattern(t *testing.T) {
	p := newTitleByPattern()
	found := 0
	check := func(s string) {
		want := p.told(s)
		if want.size > 0 {
			found++
		}
		title().check(t, s, want)
	}
	eachText([]string{"(", ")", "'", "\"", "\\", "a", " ", "\n"}, 6, check)
	eachText([]string{"'", "\n", " ", "\t", "a"}, 7, check)
	eachFrame([]string{"@", "@@", "@a@", "'@'", "(@)", "\"@\"", "'\\@'", "(\\@)", "\"\\\\@\"", "'\n@\n'", "'a'@", "@'a'", "@a)", "(a@", "'\n@a\n'"}, check)
	if found < 1000 {
		t.Errorf("found only %d", found)
	}
}
