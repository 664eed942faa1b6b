package block

import (
	"strings"
	"testing"

	"scriptorium/api"
	"scriptorium/leaf"
)

// told is all that Parse tells of a text, in short.
func told(s string) string {
	l, d := Parse(s)
	return form(l) + "; " + formDefs(d)
}

// same fails if one of several texts has other blocks or other definitions than the first.
func same(t *testing.T, s string, others ...string) {
	t.Helper()
	want := told(s)
	for _, other := range others {
		if got := told(other); got != want {
			t.Fatalf("Parse(%q) is %s; of %q it is %s", s, want, other, got)
		}
	}
}

// mixedEnds is a text with line ends of all kinds. (A carriage return alone stands ahead of no line feed: it would be one end with it.)
func mixedEnds(s string) string {
	ends := []string{"\r\n", "\n", "\r\n", "\r", "\r"}
	out := ""
	for i, line := range strings.SplitAfter(s, "\n") {
		out += strings.ReplaceAll(line, "\n", ends[i%len(ends)])
	}
	return out
}

// TestLineEnds: which line ends there are changes nothing.
func TestLineEnds(t *testing.T) {
	eachLines(func(s string) {
		same(t, s, strings.ReplaceAll(s, "\n", "\r"), strings.ReplaceAll(s, "\n", "\r\n"), mixedEnds(s))
		if !strings.HasSuffix(s, "\n\n") {
			same(t, s, strings.TrimSuffix(s, "\n"))
		}
	})
	for _, end := range []string{"\n", "\r", "\r\n"} {
		checkEnds(t, end)
	}
}

// checkEnds goes over each kind of block with one kind of line ends.
func checkEnds(t *testing.T, end string) {
	t.Helper()
	l := func(lines ...string) string { return strings.Join(lines, end) }
	check(t, l("a", "b", "", "c"), `p"a\nb" p"c"`)
	check(t, l("a", "===", "***", ""), `h1"a" rule`)
	check(t, l("> a", "> b", "c"), `quote(p"a\nb\nc")`)
	check(t, l("- a", "", "  b", "- c"), `loose(item(p"a" p"b") item(p"c"))`)
	check(t, l("```", "", "a", "```", ""), `code"\na\n"`)
	check(t, l("    a", "", "    b", ""), `code"a\n\nb\n"`)
	check(t, l("<!--", "", "-->", "a"), `html"<!--\n\n-->\n" p"a"`)
	checkDefs(t, l("[a]:", "b", "'c", "d'", "e"), `p"e"`, `[a]"b""c\nd"`)
}

// TestEmptyLinesAhead: empty lines at the beginning change nothing.
func TestEmptyLinesAhead(t *testing.T) {
	eachLines(func(s string) { same(t, s, "\n"+s, "\n\r\n"+s, "     \n\t\n\n"+s) })
}

// quoted is a text in a Quote.
func quoted(s string) string {
	out := ""
	for _, line := range strings.SplitAfter(s, "\n") {
		switch {
		case line == "":
		case line == "\n":
			out += ">\n"
		default:
			out += "> " + line
		}
	}
	return out
}

// TestQuoteKids: a Quote's kids are the blocks of its lines without their marks.
func TestQuoteKids(t *testing.T) {
	eachLines(func(s string) {
		if s == "" {
			return
		}
		l, d := Parse(s)
		outer, otherD := Parse(quoted(s))
		if len(outer) != 1 || outer[0].Kind != api.Quote || form(outer[0].Kids) != form(l) || formDefs(otherD) != formDefs(d) {
			t.Fatalf("Parse(%q) is %s, not a quote of %s", quoted(s), form(outer), form(l))
		}
	})
}

// listed is a text in an Item, or nothing, if it can't stand in one: a first line that has no text at its front, or with the marker is a Rule.
func listed(marker, s string) string {
	if s == "" || strings.HasPrefix(s, " ") || strings.HasPrefix(s, "\n") || leaf.Rule(marker+strings.Split(s, "\n")[0]) {
		return ""
	}
	gap := many(" ", len(marker))
	out := marker
	for i, line := range strings.SplitAfter(s, "\n") {
		if i > 0 && strings.Trim(line, " \n") != "" {
			out += gap
		}
		out += line
	}
	return out
}

// TestItemKids: an Item's kids are the blocks of its lines without their indentation. (But where nothing is in it yet, since all were definitions, an empty line ends it.)
func TestItemKids(t *testing.T) {
	found := 0
	eachLines(func(s string) {
		l, d := Parse(s)
		if len(d) > 0 || strings.Contains(s, "      ") {
			return
		}
		for _, marker := range []string{"- ", "1.   "} {
			item := listed(marker, s)
			if item == "" {
				continue
			}
			found++
			outer, _ := Parse(item)
			if len(outer) != 1 || outer[0].Kind != api.List || len(outer[0].Kids) != 1 || form(outer[0].Kids[0].Kids) != form(l) {
				t.Fatalf("Parse(%q) is %s, not an item of %s", item, form(outer), form(l))
			}
		}
	})
	if found < 1000 {
		t.Errorf("found only %d", found)
	}
}

// TestNestNeverTooDeep: at most 24 Quotes and Items stand in one another, whatever the marks are.
func TestNestNeverTooDeep(t *testing.T) {
	eachText([]string{many("> ", 12), many("- ", 12), many(">", 23), "1. ", "\n", "a", many("  ", 23)}, 5, func(s string) {
		l, _ := Parse(s)
		if n := depth(l); n > api.MaxNest {
			t.Fatalf("Parse(%q) is %d deep", s, n)
		}
		want, _ := readTree(s)
		if form(l) != form(want) {
			t.Fatalf("Parse(%q) is %s, not %s", s, form(l), form(want))
		}
	})
}

// depth is how many Quotes and Items stand in one another.
func depth(l []api.Block) int {
	most := 0
	for _, b := range l {
		n := depth(b.Kids)
		if b.Kind == api.Quote || b.Kind == api.Item {
			n++
		}
		most = max(most, n)
	}
	return most
}
