package block

import (
	"fmt"
	"reflect"
	"strings"
	"testing"

	"scriptorium/api"
)

// form is blocks in short: p a Para, h1 to h6 a Heading, code, html, rule, quote(..), item(..), and a List as tight(..) or loose(..), with numbers as tight2(..).
func form(l []api.Block) string {
	var out []string
	for _, b := range l {
		out = append(out, formOne(b))
	}
	return strings.Join(out, " ")
}

func formOne(b api.Block) string {
	switch b.Kind {
	case api.Quote:
		return "quote(" + form(b.Kids) + ")"
	case api.List:
		return formList(b) + "(" + form(b.Kids) + ")"
	case api.Item:
		return "item(" + form(b.Kids) + ")"
	case api.Heading:
		return fmt.Sprintf("h%d%q", b.Level, b.Text)
	case api.Para:
		return fmt.Sprintf("p%q", b.Text)
	case api.Code:
		if b.Info != "" {
			return fmt.Sprintf("code[%s]%q", b.Info, b.Text)
		}
		return fmt.Sprintf("code%q", b.Text)
	case api.HTML:
		return fmt.Sprintf("html%q", b.Text)
	case api.Rule:
		return "rule"
	}
	return fmt.Sprintf("?%d", b.Kind)
}

func formList(b api.Block) string {
	s := "loose"
	if b.Tight {
		s = "tight"
	}
	if b.Ordered {
		s += fmt.Sprint(b.Start)
	}
	return s
}

// formDefs is definitions in short.
func formDefs(l []api.Def) string {
	var out []string
	for _, d := range l {
		out = append(out, fmt.Sprintf("[%s]%q%q", d.Label, d.Dest, d.Title))
	}
	return strings.Join(out, " ")
}

// meant is a block with the fields alone that its kind gives a meaning.
func meant(b api.Block) api.Block {
	m := api.Block{Kind: b.Kind}
	switch b.Kind {
	case api.Quote, api.Item:
		m.Kids = b.Kids
	case api.List:
		m.Tight, m.Ordered, m.Kids = b.Tight, b.Ordered, b.Kids
		if b.Ordered {
			m.Start = b.Start
		}
	case api.Heading:
		m.Level, m.Text = b.Level, b.Text
	case api.Para, api.HTML:
		m.Text = b.Text
	case api.Code:
		m.Text, m.Info = b.Text, b.Info
	}
	return m
}

// checkMeant fails if a field has a value that has no meaning, or something stands where it can't.
func checkMeant(t *testing.T, s string, l []api.Block, in int) {
	t.Helper()
	for _, b := range l {
		if b.Kind < api.Quote || b.Kind > api.Rule || (b.Kind == api.Item) != (in == api.List) {
			t.Fatalf("Parse(%q): kind %d in kind %d", s, b.Kind, in)
		}
		if !reflect.DeepEqual(b, meant(b)) {
			t.Fatalf("Parse(%q): fields without a meaning: %+v", s, b)
		}
		checkMeant(t, s, b.Kids, b.Kind)
	}
}

// check holds the blocks of a text against their form.
func check(t *testing.T, s, want string) {
	t.Helper()
	l, _ := Parse(s)
	if got := form(l); got != want {
		t.Errorf("Parse(%q) is %s, not %s", s, got, want)
	}
	checkMeant(t, s, l, 0)
}

// checkDefs holds the blocks and the definitions of a text against their forms.
func checkDefs(t *testing.T, s, blocks, defs string) {
	t.Helper()
	check(t, s, blocks)
	_, l := Parse(s)
	if got := formDefs(l); got != defs {
		t.Errorf("Parse(%q) defines %s, not %s", s, got, defs)
	}
}

// parsed is a text, and the form of its blocks.
type parsed struct {
	text, form string
}

func checkAll(t *testing.T, l []parsed) {
	t.Helper()
	for _, c := range l {
		check(t, c.text, c.form)
	}
}

func many(s string, n int) string { return strings.Repeat(s, n) }

func TestExamples(t *testing.T) {
	checkAll(t, []parsed{
		{"# a\nb\n===\n***", `h1"a" h1"b" rule`},
		{"> a\nb\n\n> c", `quote(p"a\nb") quote(p"c")`},
		{"- a\n- b\n\n  c\n1. d", `loose(item(p"a") item(p"b" p"c")) tight1(item(p"d"))`},
		{"    a\n\n    b\n\n", `code"a\n\nb\n"`},
		{"[a]: b\n[A]: c\n---", `rule`},
		{"a\n- \n2. b\n1. c", `h2"a" tight2(item(p"b") item(p"c"))`},
		{"<div>\n*a*\n\n*b*", `html"<div>\n*a*\n" p"*b*"`},
	})
	checkDefs(t, "[a]: b\n[A]: c\n---", "rule", `[a]"b"""`)
}

// TestNothing: of nothing, and of Blank lines, there are no blocks.
func TestNothing(t *testing.T) {
	for _, s := range []string{"", "\n", "\r", "\r\n", "\n\n\n", " ", "\t", "    ", "     \n\t\t\n  ", " \r \r\n \n"} {
		l, d := Parse(s)
		if len(l) != 0 || len(d) != 0 {
			t.Errorf("Parse(%q) is %v, %v", s, l, d)
		}
	}
}

// TestWhatNoBlankIs: spaces of other kinds are text, and so is a byte 0.
func TestWhatNoBlankIs(t *testing.T) {
	checkAll(t, []parsed{
		{"\u00a0", `p"\u00a0"`},
		{"\x0c", `p"\f"`},
		{"\x0b\n\x00", `p"\v\n\x00"`},
		{"\x00", `p"\x00"`},
		{"\x00> a", `p"\x00> a"`},
		{"    \x00", `code"\x00\n"`},
		{"-\u00a0a", `p"-\u00a0a"`},
		{"- \u00a0", `tight(item(p"\u00a0"))`},
		{"a\n\u00a0\nb", `p"a\n\u00a0\nb"`},
		{"a\u00a0", `p"a\u00a0"`},
		{"a\u2028b\u0085c", `p"a\u2028b\u0085c"`},
		{"\xff\xfe\n\x80", `p"\xff\xfe\n\x80"`},
	})
}

// TestTheCallersOwn: what was answered may be written over (R1), and the same text has the same answer (R4).
func TestTheCallersOwn(t *testing.T) {
	s := "> a\n\n- b\n- c\n\n  d\n\n[x]: y\n[z]: w"
	l, d := Parse(s)
	want, defs := form(l), formDefs(d)
	spoil(l)
	for i := range d {
		d[i] = api.Def{Label: "spoilt"}
	}
	l, d = Parse(s)
	if form(l) != want || formDefs(d) != defs {
		t.Errorf("Parse(%q) is %s, %s", s, form(l), formDefs(d))
	}
}

// spoil writes over blocks, from the innermost ones on, and behind their ends as far as their room goes.
func spoil(l []api.Block) {
	for i := range l {
		spoil(l[i].Kids)
		l[i] = api.Block{Kind: -1}
	}
	for i := range cap(l) - len(l) {
		l[:cap(l)][len(l)+i] = api.Block{Kind: -1}
	}
}

// TestListsShareNothing: to write behind one list's end, or over it, changes no other list of the answer.
func TestListsShareNothing(t *testing.T) {
	s := "- a\n- b\n  - c\n\n    d\n  - e\n> f\n>\n> g\n\nh"
	l, _ := Parse(s)
	lists := listsOf(l)
	for i := range lists {
		again, _ := Parse(s)
		theirs := listsOf(again)
		var others []string
		for j := range theirs {
			others = append(others, leaves(theirs[j]))
		}
		spoilOne(theirs[i])
		for j := range theirs {
			if j != i && leaves(theirs[j]) != others[j] {
				t.Errorf("list %d changed with list %d", j, i)
			}
		}
	}
	if len(lists) < 8 {
		t.Errorf("only %d lists", len(lists))
	}
}

// listsOf are all lists of blocks within one another.
func listsOf(l []api.Block) [][]api.Block {
	out := [][]api.Block{l}
	for _, b := range l {
		if len(b.Kids) > 0 {
			out = append(out, listsOf(b.Kids)...)
		}
	}
	return out
}

// leaves is what stands in a list itself, without what is in that.
func leaves(l []api.Block) string {
	var out []string
	for _, b := range l {
		out = append(out, fmt.Sprint(b.Kind, b.Text))
	}
	return strings.Join(out, ",")
}

func spoilOne(l []api.Block) {
	whole := l[:cap(l)]
	for i := range whole {
		whole[i].Kind, whole[i].Text = -1, "spoilt"
	}
}

// TestLong goes over texts that are far longer than a document's.
func TestLong(t *testing.T) {
	const size = 1 << 17
	check(t, many("a\n", size), fmt.Sprintf("p%q", strings.TrimSuffix(many("a\n", size), "\n")))
	check(t, many("a\n\n", size), strings.TrimSuffix(many(`p"a" `, size), " "))
	check(t, "```\n"+many("\n", size), fmt.Sprintf("code%q", many("\n", size)))
	check(t, "    a\n"+many("\n", size)+"b", `code"a\n" p"b"`)
	check(t, many("- a\n", size), "tight("+strings.TrimSuffix(many(`item(p"a") `, size), " ")+")")
	check(t, "- a\n"+many("\n", size)+"- b", `loose(item(p"a") item(p"b"))`)
	check(t, many("#", size), fmt.Sprintf("p%q", many("#", size)))
	check(t, many("-", size), "rule")
	check(t, many("- ", size), "rule")
	checkDefs(t, many("[a]: b\n", size), "", `[a]"b"""`)
	l, d := Parse(many("> ", size) + "a\n" + many("- ", size) + "b\n" + many("\t", size) + "c\n" + many("<", size))
	if len(l) == 0 || len(d) != 0 {
		t.Error("marks")
	}
}
