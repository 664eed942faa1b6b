package inline

import (
	"fmt"
	"reflect"
	"slices"
	"strings"
	"testing"

	"scriptorium/api"
)

// form is parts in short: a Text quoted, soft, hard, span, raw, emph(..), strong(..), and link<dest|title>(..), image<dest|title>(..).
func form(l []api.Inline) string {
	var out []string
	for _, x := range l {
		out = append(out, formOne(x))
	}
	return strings.Join(out, " ")
}

func formOne(x api.Inline) string {
	switch x.Kind {
	case api.Text:
		return fmt.Sprintf("%q", x.Text)
	case api.Soft:
		return "soft"
	case api.Hard:
		return "hard"
	case api.Span:
		return fmt.Sprintf("span%q", x.Text)
	case api.Raw:
		return fmt.Sprintf("raw%q", x.Text)
	case api.Emph:
		return "emph(" + form(x.Kids) + ")"
	case api.Strong:
		return "strong(" + form(x.Kids) + ")"
	case api.Link:
		return "link<" + x.Dest + "|" + x.Title + ">(" + form(x.Kids) + ")"
	case api.Image:
		return "image<" + x.Dest + "|" + x.Title + ">(" + form(x.Kids) + ")"
	}
	return fmt.Sprintf("?%d", x.Kind)
}

// meant is a part with the fields alone that its kind gives a meaning.
func meant(x api.Inline) api.Inline {
	m := api.Inline{Kind: x.Kind}
	switch x.Kind {
	case api.Text, api.Span, api.Raw:
		m.Text = x.Text
	case api.Emph, api.Strong:
		m.Kids = x.Kids
	case api.Link, api.Image:
		m.Dest, m.Title, m.Kids = x.Dest, x.Title, x.Kids
	}
	return m
}

// fault is what is wrong with parts, whatever the text was; nothing, if all is right.
func fault(l []api.Inline) string {
	for i, x := range l {
		if m := meant(x); x.Text != m.Text || x.Dest != m.Dest || x.Title != m.Title || len(x.Kids) != len(m.Kids) {
			return fmt.Sprintf("a field without meaning is not zero: %+v", x)
		}
		if x.Kind == api.Text && x.Text == "" {
			return "an empty text"
		}
		if i > 0 && x.Kind == api.Text && l[i-1].Kind == api.Text {
			return "two texts side by side"
		}
		if f := fault(x.Kids); f != "" {
			return f
		}
	}
	return ""
}

// known are the definitions that most tests hand in.
func known() []api.Def {
	return []api.Def{{Label: "x", Dest: "/x", Title: "t"}, {Label: "y z", Dest: "/yz"}, {Label: "*e*", Dest: "/e"}}
}

func checkWith(t *testing.T, defs []api.Def, s, want string) {
	t.Helper()
	l := Parse(s, defs)
	if got := form(l); got != want {
		t.Errorf("Parse(%q) is %s, not %s", s, got, want)
	}
	if f := fault(l); f != "" {
		t.Errorf("Parse(%q): %s", s, f)
	}
}

func check(t *testing.T, s, want string) {
	t.Helper()
	checkWith(t, known(), s, want)
}

// checkText: a text that means nothing.
func checkText(t *testing.T, s string) {
	t.Helper()
	check(t, s, fmt.Sprintf("%q", s))
}

// many is a text that stands n times.
func many(s string, n int) string { return strings.Repeat(s, n) }

// eachText calls f with every text of at most most pieces.
func eachText(pieces []string, most int, f func(string)) {
	var add func(s string, left int)
	add = func(s string, left int) {
		f(s)
		if left == 0 {
			return
		}
		for _, p := range pieces {
			add(s+p, left-1)
		}
	}
	add("", most)
}

// TestExamples goes over the chapter's table.
func TestExamples(t *testing.T) {
	check(t, "*a **b** c*", `emph("a " strong("b") " c")`)
	check(t, "**a*", `"*" emph("a")`)
	check(t, "a_b_c", `"a_b_c"`)
	check(t, "***a** b*", `emph(strong("a") " b")`)
	check(t, "*a**b*", `emph("a**b")`)
	check(t, `[a](/b "c")`, `link</b|c>("a")`)
	check(t, "[a]( <b c> )", `link<b c|>("a")`)
	check(t, "[a](b c)", `"[a](b c)"`)
	check(t, "[a [b](c) d](e)", `"[a " link<c|>("b") " d](e)"`)
	check(t, "![a *b*](c)", `image<c|>("a " emph("b"))`)
	check(t, "[x]", `link</x|t>("x")`)
	check(t, "[x][]", `link</x|t>("x")`)
	check(t, "[y][X]", `link</x|t>("y")`)
	check(t, "[x][y]", `"[x][y]"`)
	check(t, "a  \nb\nc", `"a" hard "b" soft "c"`)
}

// TestFields: each kind has the fields that H1 names, and no others.
func TestFields(t *testing.T) {
	text := func(s string) []api.Inline { return []api.Inline{{Kind: api.Text, Text: s}} }
	want := []api.Inline{
		{Kind: api.Text, Text: "a"},
		{Kind: api.Soft},
		{Kind: api.Text, Text: "b"},
		{Kind: api.Hard},
		{Kind: api.Span, Text: "c"},
		{Kind: api.Emph, Kids: text("d")},
		{Kind: api.Strong, Kids: text("e")},
		{Kind: api.Link, Dest: "g", Title: "h", Kids: text("f")},
		{Kind: api.Image, Dest: "j", Title: "k", Kids: text("i")},
		{Kind: api.Raw, Text: "<l>"},
		{Kind: api.Link, Dest: "mailto:m@n", Kids: text("m@n")},
		{Kind: api.Link, Dest: "/x", Title: "t", Kids: text("x")},
	}
	got := Parse("a\nb  \n`c`*d***e**[f](g 'h')![i](j 'k')<l><m@n>[x]", known())
	if !reflect.DeepEqual(got, want) {
		t.Errorf("the parts are %s", form(got))
	}
}

// TestOneText: neighbouring texts are one, and empty ones are none.
func TestOneText(t *testing.T) {
	check(t, "", "")
	check(t, "a\\*b&amp;c!]`d\\e[f*g_h<i&j![", "\"a*b&c!]`d\\\\e[f*g_h<i&j![\"")
	check(t, "\\*\\*", `"**"`)
	check(t, "*&lt;\\>[*a", `"*<>[*a"`)
	check(t, "a]*b*[c", `"a]" emph("b") "[c"`)
	check(t, "**", `"**"`)
	check(t, "[**](b)", `link<b|>("**")`)
	check(t, "*\\**", `emph("*")`)
	check(t, "*a*\n*b*", `emph("a") soft emph("b")`)
	check(t, "*a*_b_", `emph("a") emph("b")`)
	check(t, "*a*`b`", "emph(\"a\") span\"b\"")
}

// TestDefinitions: the first one of each label counts, whatever stands in it.
func TestDefinitions(t *testing.T) {
	twice := []api.Def{{Label: "a", Dest: "1"}, {Label: "b", Dest: "2"}, {Label: "a", Dest: "3", Title: "4"}, {Label: "b"}}
	checkWith(t, twice, "[a] [b]", `link<1|>("a") " " link<2|>("b")`)
	slices.Reverse(twice)
	checkWith(t, twice, "[a] [b]", `link<3|4>("a") " " link<|>("b")`)
	checkWith(t, nil, "[a][b] [b][] [a]", `"[a][b] [b][] [a]"`)
	empty := []api.Def{{}, {Label: "", Dest: "a"}, {Label: " ", Dest: "b"}}
	checkWith(t, empty, "[] [ ] [a][] [a][ ]", `"[] [ ] [a][] [a][ ]"`)
	checkWith(t, []api.Def{{Label: "ss", Dest: "a*b*&amp;\\*", Title: "[x]*c*\n\n"}}, "[\u1e9e]", "link<a*b*&amp;\\*|[x]*c*\n\n>(\"\u1e9e\")")
	var all []api.Def
	for i := range 1000 {
		all = append(all, api.Def{Label: fmt.Sprint(i), Dest: fmt.Sprint(-i)})
	}
	checkWith(t, all, "[0][999]![500]", `link<-999|>("0") image<-500|>("500")`)
}

// TestHandedInStays: definitions are neither written over nor kept, and what was told is the caller's.
func TestHandedInStays(t *testing.T) {
	const text = "[x] *a **b** c* ![d *e*][x] <f@g> [*e*] [y Z]"
	defs := known()
	first := Parse(text, defs)
	if !slices.Equal(defs, known()) {
		t.Errorf("Parse wrote over its definitions: %q", defs)
	}
	want := form(first)
	clear(defs)
	if got := form(first); got != want {
		t.Errorf("what was told changed with the definitions: %s", got)
	}
	writeOver(first)
	if got := form(Parse(text, known())); got != want {
		t.Errorf("behind a write to an answer Parse tells %s, not %s", got, want)
	}
}

func writeOver(l []api.Inline) {
	for i := range l {
		writeOver(l[i].Kids)
		l[i] = api.Inline{Kind: api.Raw, Text: "over"}
	}
}

// TestListsAreApart: what is added to one list of an answer is in no other one.
func TestListsAreApart(t *testing.T) {
	for _, text := range []string{
		"*a* *b* *c* **d** e",
		"*a **b *c* d** e* f",
		"***a** b* [c *d* e](f) ![g *h*](i) *j*",
		"[a [b](c) *d* `e` <f> <g@h>](i) *k*l*m*",
		"***a* b*** c* d*",
	} {
		l := Parse(text, known())
		want := form(l)
		addToAll(l)
		if got := form(l); got != want {
			t.Errorf("Parse(%q): behind what was added to its lists it is %s, not %s", text, got, want)
		}
	}
}

// addToAll writes into whatever room the lists have behind their items.
func addToAll(l []api.Inline) {
	for _, x := range l {
		addToAll(x.Kids)
	}
	room := l[len(l):cap(l)]
	for i := range room {
		room[i] = api.Inline{Kind: api.Raw, Text: "added"}
	}
}
