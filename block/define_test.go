package block

import (
	"fmt"
	"testing"
)

func TestDefinitions(t *testing.T) {
	cases := []struct{ text, blocks, defs string }{
		// At the front.
		{"[a]: b", ``, `[a]"b"""`},
		{"[a]: b 'c'\nd", `p"d"`, `[a]"b""c"`},
		{"[a]: b\n[c]: d\ne\n[f]: g", `p"e\n[f]: g"`, `[a]"b""" [c]"d"""`},
		{"a\n[b]: c", `p"a\n[b]: c"`, ``},
		{"[a]: b\n\nc", `p"c"`, `[a]"b"""`},
		{"[a]: b\n# c", `h1"c"`, `[a]"b"""`},
		{"[a]: b\n> c", `quote(p"c")`, `[a]"b"""`},
		{"[a]: b\n- c", `tight(item(p"c"))`, `[a]"b"""`},
		{"[a]: b\n    c", `p"c"`, `[a]"b"""`},
		{"# c\n[a]: b", `h1"c"`, `[a]"b"""`},
		{"   [a]:\n      b\n           'c'", ``, `[a]"b""c"`},
		{"[a]: b\n'c", `p"'c"`, `[a]"b"""`},
		{"[a]: b\n'c\n\nd'", `p"'c" p"d'"`, `[a]"b"""`},
		{"[a\nb]: c", ``, `[a b]"c"""`},
		{"[a]: b \t\nc \t", `p"c"`, `[a]"b"""`},
		{"[a]: b c", `p"[a]: b c"`, ``},
		{"[a]:", `p"[a]:"`, ``},
		{"[a]:\n\nb", `p"[a]:" p"b"`, ``},
		{"[ ]: a", `p"[ ]: a"`, ``},
		{"[a]: <>", ``, `[a]""""`},
		{"    [a]: b", `code"[a]: b\n"`, ``},
		{"```\n[a]: b\n```", `code"[a]: b\n"`, ``},
		{"<div>\n[a]: b", `html"<div>\n[a]: b\n"`, ``},
		{"# [a]: b", `h1"[a]: b"`, ``},
		// One label twice, wherever it stands.
		{"[a]: b\n[a]: c", ``, `[a]"b"""`},
		{"[a]: b\n[ A ]: c 'd'\n[b]: e", ``, `[a]"b""" [b]"e"""`},
		{"[\u1e9e]: b\n[SS]: c", ``, `[ss]"b"""`},
		{"> [a]: b\n\n[a]: c", `quote()`, `[a]"b"""`},
		{"[x]: y\n\n- [a]: b\n- [a]: c\n  - [b]: d\n\n[x]: z", `tight(item() item(tight(item())))`, `[x]"y""" [a]"b""" [b]"d"""`},
		// In the order in which they stood.
		{"> [c]: 1\n\n[b]: 2\n\n- [a]: 3\n\n  [d]: 4", `quote() loose(item())`, `[c]"1""" [b]"2""" [a]"3""" [d]"4"""`},
		// All of a paragraph.
		{"> [a]: b", `quote()`, `[a]"b"""`},
		{"- [a]: b", `tight(item())`, `[a]"b"""`},
		{"- [a]: b\n  c", `tight(item(p"c"))`, `[a]"b"""`},
		{"> [a]: b\nc", `quote(p"c")`, `[a]"b"""`},
		{"a\n\n[b]: c\n\nd", `p"a" p"d"`, `[b]"c"""`},
		// Ahead of an underline.
		{"[a]: b\n===", `p"==="`, `[a]"b"""`},
		{"[a]: b\n===\n===", `h1"==="`, `[a]"b"""`},
		{"[a]: b\n---", `rule`, `[a]"b"""`},
		{"[a]: b\n--", `p"--"`, `[a]"b"""`},
		{"[a]: b\n-", `tight(item())`, `[a]"b"""`},
		{"[a]: b\n-\n  c", `tight(item(p"c"))`, `[a]"b"""`},
		{"[a]: b\n=\nc", `p"=\nc"`, `[a]"b"""`},
		{"[a]: b\nc\n===", `h1"c"`, `[a]"b"""`},
		{"[a]: b\n[c]: d\ne \nf\t\n---", `h2"e \nf"`, `[a]"b""" [c]"d"""`},
		{"c\n[a]: b\n===", `h1"c\n[a]: b"`, ``},
		// The underline ends the text that is looked at.
		{"[a]:\n===", `h1"[a]:"`, ``},
		{"[a]: b\n'\n===\n'", `h1"'" p"'"`, `[a]"b"""`},
		{"> [a]: b\n> ===", `quote(p"===")`, `[a]"b"""`},
		{"> [a]: b\n===", `quote(p"===")`, `[a]"b"""`},
		{"> [a]: b\n---", `quote() rule`, `[a]"b"""`},
		{"- [a]: b\n  ---", `tight(item(rule))`, `[a]"b"""`},
		{"- [a]: b\n  -", `tight(item(tight(item())))`, `[a]"b"""`},
	}
	for _, c := range cases {
		checkDefs(t, c.text, c.blocks, c.defs)
	}
}

// TestGoneParagraph: what is gone is in no Item any more, so that a Blank line ends it, unless it is indented.
func TestGoneParagraph(t *testing.T) {
	checkAll(t, []parsed{
		{"- [a]: b\n\n  c", `loose(item(p"c"))`},
		{"- [a]: b\n\n\n  c", `tight(item()) p"c"`},
		{"- [a]: b\n\n  \n  c", `loose(item(p"c"))`},
		{"- [a]: b\n\n  [c]: d\n\n\n  e", `loose(item()) p"e"`},
		{"- # x\n\n  [a]: b\n\n\n  c", `loose(item(h1"x" p"c"))`},
		{"- [a]: b\n  > c\n\n\n  d", `loose(item(quote(p"c") p"d"))`},
	})
}

// TestManyDefinitions: each label once, however many there are.
func TestManyDefinitions(t *testing.T) {
	const labels = 2000
	s := ""
	for range 3 {
		for i := range labels {
			s += fmt.Sprintf("[l%d]: d%d\n", i, len(s))
		}
	}
	l, d := Parse(s)
	if len(l) != 0 || len(d) != labels {
		t.Fatalf("%d blocks, %d definitions", len(l), len(d))
	}
	for i := range d {
		if d[i].Label != fmt.Sprintf("l%d", i) || d[i].Title != "" {
			t.Fatalf("definition %d is %v", i, d[i])
		}
	}
}
