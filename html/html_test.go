package html

import (
	"reflect"
	"strings"
	"testing"

	"scriptorium/api"
	"scriptorium/block"
	"scriptorium/runes"
)

func check(t *testing.T, s, want string) {
	t.Helper()
	if got := Render([]byte(s)); got != want {
		t.Errorf("Render(%q) is\n%q, not\n%q", s, got, want)
	}
}

func checkBlocks(t *testing.T, want string, l ...api.Block) {
	t.Helper()
	if got := Write(l, nil); got != want {
		t.Errorf("Write(%+v) is\n%q, not\n%q", l, got, want)
	}
}

func para(s string) api.Block { return api.Block{Kind: api.Para, Text: s} }

func item(kids ...api.Block) api.Block { return api.Block{Kind: api.Item, Kids: kids} }

func quote(kids ...api.Block) api.Block { return api.Block{Kind: api.Quote, Kids: kids} }

func tight(kids ...api.Block) api.Block { return api.Block{Kind: api.List, Tight: true, Kids: kids} }

func loose(kids ...api.Block) api.Block { return api.Block{Kind: api.List, Kids: kids} }

func rule() api.Block { return api.Block{Kind: api.Rule} }

// many is a text that stands n times.
func many(s string, n int) string { return strings.Repeat(s, n) }

// eachText calls f with every text of at most most pieces.
func eachText(pieces []string, most int, f func(string)) {
	var add func(s string, left int)
	add = func(s string, left int) {
		f(s)
		if left == 0 {
			return
		}
		for _, p := range pieces {
			add(s+p, left-1)
		}
	}
	add("", most)
}

// TestExamples are those of the chapter.
func TestExamples(t *testing.T) {
	check(t, "# a *b*", "<h1>a <em>b</em></h1>\n")
	check(t, "- a\n- b", "<ul>\n<li>a</li>\n<li>b</li>\n</ul>\n")
	check(t, "3. a\n\n   b", "<ol start=\"3\">\n<li>\n<p>a</p>\n<p>b</p>\n</li>\n</ol>\n")
	check(t, "![a *b*](c \"d\")", "<p><img src=\"c\" alt=\"a b\" title=\"d\" /></p>\n")
}

// TestNothing: of nothing, and of what is no block, nothing is written.
func TestNothing(t *testing.T) {
	for _, s := range []string{"", "\n", " ", "\t\n \n", "\r\n\r", "[a]: b", "[a]: b\n\n[c]: d 'e'\n"} {
		check(t, s, "")
	}
	if got := Render(nil); got != "" {
		t.Errorf("Render(nil) is %q", got)
	}
	checkBlocks(t, "")
	if got := Write([]api.Block{}, []api.Def{}); got != "" {
		t.Errorf("Write of no blocks is %q", got)
	}
}

// TestRenderIsWriteOfClean goes over what Clean changes, and over short texts of all kinds of blocks.
func TestRenderIsWriteOfClean(t *testing.T) {
	for _, c := range [][2]string{
		{"a\x00b", "<p>a\ufffdb</p>\n"},
		{"a\xffb", "<p>a\ufffdb</p>\n"},
		{"```\x00\n\x80\n```", "<pre><code class=\"language-\ufffd\">\ufffd\n</code></pre>\n"},
		{"[a](\x00)", "<p><a href=\"%EF%BF%BD\">a</a></p>\n"},
		{"# a\r\nb\rc", "<h1>a</h1>\n<p>b\nc</p>\n"},
	} {
		check(t, c[0], c[1])
	}
	pieces := []string{"a", "\n", "- ", "> ", "    ", "\x00", "\xe4", "\r", "[a]", ": /b\n", "*", "<b>"}
	eachText(pieces, 5, func(s string) {
		l, defs := block.Parse(runes.Clean([]byte(s)))
		if got, want := Render([]byte(s)), Write(l, defs); got != want {
			t.Fatalf("Render(%q) is %q, not %q", s, got, want)
		}
	})
}

// TestDefinitions: Write looks labels up in what it is handed, Render in what the document defines, wherever that stands.
func TestDefinitions(t *testing.T) {
	defs := []api.Def{{Label: "a", Dest: "/ä", Title: "t&"}, {Label: "b", Dest: ""}, {Label: "a", Dest: "/late"}}
	l := []api.Block{para("[a] [b] [c]"), {Kind: api.Heading, Level: 2, Text: "![A][a]"}, tight(item(para("[A]"))), quote(para("[x][a]"))}
	want := "<p><a href=\"/%C3%A4\" title=\"t&amp;\">a</a> <a href=\"\">b</a> [c]</p>\n" +
		"<h2><img src=\"/%C3%A4\" alt=\"A\" title=\"t&amp;\" /></h2>\n" +
		"<ul>\n<li><a href=\"/%C3%A4\" title=\"t&amp;\">A</a></li>\n</ul>\n" +
		"<blockquote>\n<p><a href=\"/%C3%A4\" title=\"t&amp;\">x</a></p>\n</blockquote>\n"
	if got := Write(l, defs); got != want {
		t.Errorf("Write is\n%q, not\n%q", got, want)
	}
	checkBlocks(t, "<p>[a]</p>\n", para("[a]"))
	checkBlocks(t, "<p>[a]: b</p>\n", para("[a]: b"))
	check(t, "[a]\n\n> [A]: /b 'c'\n\n# [a][]", "<p><a href=\"/b\" title=\"c\">a</a></p>\n<blockquote>\n</blockquote>\n<h1><a href=\"/b\" title=\"c\">a</a></h1>\n")
	check(t, "[a]: b\n[a]: c\n\n[a]", "<p><a href=\"b\">a</a></p>\n")
}

// TestDefinitionsAreNoneOfAnother: what one call was handed is not there in the next one.
func TestDefinitionsAreNoneOfAnother(t *testing.T) {
	check(t, "[a]: b\n\n[a]", "<p><a href=\"b\">a</a></p>\n")
	check(t, "[a]", "<p>[a]</p>\n")
}

// TestHandedInStays: neither the bytes nor the blocks nor the definitions change.
func TestHandedInStays(t *testing.T) {
	given := func() ([]api.Block, []api.Def) {
		return []api.Block{
			tight(item(para("a *b* [x]  \nc"), tight(item(para("![x]"))))),
			{Kind: api.Code, Text: "<\n", Info: " a b"},
			{Kind: api.HTML, Text: "<b>"},
			quote(loose(item(api.Block{Kind: api.Heading, Level: 3, Text: "`<`"}))),
			{Kind: 9, Text: "a", Kids: []api.Block{para("b")}},
		}, []api.Def{{Label: "x", Dest: "/x", Title: "\""}, {Label: "x", Dest: "y"}}
	}
	l, defs := given()
	first := Write(l, defs)
	wantL, wantDefs := given()
	if !reflect.DeepEqual(l, wantL) || !reflect.DeepEqual(defs, wantDefs) {
		t.Errorf("Write changed what it was handed: %+v %+v", l, defs)
	}
	if again := Write(l, defs); again != first {
		t.Errorf("Write is %q, and then %q", first, again)
	}
	const text = "# a\r\n\x00\xff- b\r[x]: y\n\n[x] <b> ``` "
	b := []byte(text)
	told := Render(b)
	if string(b) != text {
		t.Errorf("Render changed its bytes: %q", b)
	}
	kept := strings.Clone(told)
	for i := range b {
		b[i] = 'z'
	}
	if told != kept {
		t.Errorf("what Render told changed with its bytes: %q", told)
	}
}
