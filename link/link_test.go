package link

import (
	"fmt"
	"strings"
	"testing"

	"scriptorium/api"
	"scriptorium/runes"
)

// told is what Label, Dest and Title tell.
type told struct {
	text string
	size int
}

func (w told) String() string {
	return fmt.Sprintf("%q, %d", w.text, w.size)
}

// call is Label, Dest or Title, by its name, with texts of its kind.
type call struct {
	name  string
	of    func(string) (string, int)
	texts []string
}

func label() call { return call{"Label", Label, labels()} }
func dest() call  { return call{"Dest", Dest, dests()} }
func title() call { return call{"Title", Title, titles()} }

func calls() []call {
	return []call{label(), dest(), title()}
}

func (c call) told(s string) told {
	text, size := c.of(s)
	return told{text, size}
}

// check holds a call's answer against another one.
func (c call) check(t *testing.T, s string, want told) {
	t.Helper()
	if got := c.told(s); got != want {
		t.Fatalf("%s(%q) is %v, not %v", c.name, s, got, want)
	}
}

// many is a text that stands n times.
func many(s string, n int) string {
	return strings.Repeat(s, n)
}

// eachText calls f with every text of at most most pieces.
func eachText(pieces []string, most int, f func(string)) {
	f("")
	if most == 0 {
		return
	}
	for _, p := range pieces {
		eachText(pieces, most-1, func(s string) { f(p + s) })
	}
}

// eachByte calls f with every byte, as a text.
func eachByte(f func(s string)) {
	for i := range 256 {
		f(string([]byte{byte(i)}))
	}
}

// eachFrame calls f with every frame, each byte in place of its '@'.
func eachFrame(frames []string, f func(s string)) {
	for _, frame := range frames {
		eachByte(func(c string) { f(strings.Replace(frame, "@", c, 1)) })
	}
}

// unescaped is a byte behind a backslash, as it is told.
func unescaped(c string) string {
	if runes.Mark(c[0]) {
		return c
	}
	return "\\" + c
}

// labels, dests and titles are texts that are such a thing, to the last byte.
func labels() []string {
	return []string{"[a]", "[a\\]b]", "[\\[]", "[ a\n\tb ]", "[\\\\]", "[&amp;]", "[" + many("a", api.MaxLabel) + "]"}
}

func dests() []string {
	return []string{"<>", "<a b>", "<\\>>", "<a\\\\>", "<&gt;>", "a", "a(b)c", "\\(x", "\\\\", "&amp;", "a\\)", "((()))", many("(", 32) + many(")", 32)}
}

func titles() []string {
	return []string{"\"\"", "\"a\"", "'a'", "(a)", "()", "\"a\\\"b\"", "'a\nb'", "(\\(\\))", "\"\n\"", "'&quot;'"}
}

// TestEndsWhereItIsTold: what a call tells stands at the text's front, and is all that it looked at.
func TestEndsWhereItIsTold(t *testing.T) {
	for _, c := range calls() {
		for _, s := range c.texts {
			want := c.told(s)
			if want.size != len(s) {
				t.Errorf("%s(%q) has %d bytes", c.name, s, want.size)
			}
			for _, behind := range behinds(c.name, s) {
				c.check(t, s+behind, want)
			}
		}
	}
}

// behinds are texts that may stand behind a text without changing what a call tells of it.
func behinds(name, s string) []string {
	l := []string{" ", "\n", "\t", "\x00", "\x1f", "\x7f", " a", "\n\n", ")", "))", ") (", " )"}
	if name == "Dest" && s[0] != '<' {
		return l
	}
	eachByte(func(c string) { l = append(l, c, c+s, c+"]>\"')") })
	return append(l, s, "a", "]", "[", "\\", "\u00e4", many("a", 5000))
}

// TestWithoutItsEndThereIsNone: cut short, what needs an end is nothing.
func TestWithoutItsEndThereIsNone(t *testing.T) {
	for _, c := range calls() {
		for _, s := range c.texts {
			if c.name == "Dest" && s[0] != '<' {
				continue
			}
			for cut := range len(s) {
				c.check(t, s[:cut], told{})
			}
		}
	}
}

// TestTheFrontAlone: with something ahead of it that none begins with, nothing is left of it.
func TestTheFrontAlone(t *testing.T) {
	for _, c := range calls() {
		firsts := []string{" ", "\t", "\n", "\r", "\x00", "\x7f", ")"}
		if c.name != "Dest" {
			firsts = append(firsts, "a", "\\", "]", "\u00e4", "\xff")
		}
		for _, s := range c.texts {
			for _, first := range firsts {
				c.check(t, first+s, told{})
			}
		}
	}
}

// TestWithinTheText: whatever the bytes are, what is told stands within them, and nothing is told beside 0 bytes.
func TestWithinTheText(t *testing.T) {
	all := calls()
	check := func(s string) {
		for _, c := range all {
			got := c.told(s)
			if got.size < 0 || got.size > len(s) || got.size == 0 && got.text != "" {
				t.Fatalf("%s(%q) is %v", c.name, s, got)
			}
			if got.size > 0 {
				c.check(t, s[:got.size], got)
			}
		}
		got := definitionOf(s)
		if got.size < 0 || got.size > len(s) || got.size == 0 && got.def != (api.Def{}) {
			t.Fatalf("Define(%q) is %v", s, got)
		}
		checkDefine(t, s[:got.size], got)
	}
	eachFrame([]string{"@", "@@", "[@", "[a@", "[a]@", "[a]:@", "[a]: b@", "[a]: <b>@", "[a]: b\n@", "[a]: b '@", "[a]: b 'c'@", "<@", "<a@>", "'@'", "(@)", "\"@\"", "\\@"}, check)
	eachText([]string{"[a]:", "<", ">", "(", ")", "'", "\\", " ", "\n", "b", "\xe4"}, 5, check)
}

// TestLong goes over texts that are far longer than a document's.
func TestLong(t *testing.T) {
	const size = 1 << 20
	label().check(t, "["+many("a", size)+"]", told{})
	label().check(t, many("[", size), told{})
	label().check(t, "[a]"+many("]", size), told{"a", 3})
	dest().check(t, many("a", size), told{many("a", size), size})
	dest().check(t, many("()", size), told{many("()", size), 2 * size})
	dest().check(t, many("(", size), told{})
	dest().check(t, many("\\(", size), told{many("(", size), 2 * size})
	dest().check(t, "<"+many(" ", size)+">", told{many(" ", size), size + 2})
	dest().check(t, "<"+many("a", size), told{})
	title().check(t, "'"+many("a\n", size)+"'", told{many("a\n", size), 2*size + 2})
	title().check(t, "'"+many("\\'", size)+"'", told{many("'", size), 2*size + 2})
	title().check(t, "("+many(" ", size), told{})
	title().check(t, "'a\n"+many(" ", size)+"\n'", told{})
	s := "[a]:" + many(" ", size) + "b" + many("\t", size) + "\n" + many(" ", size) + "'c'" + many(" ", size)
	checkDefine(t, s, define("a", "b", "c", len(s)))
}
