package html

import (
	"fmt"
	"testing"

	"scriptorium/api"
)

func heading(level int, s string) api.Block {
	return api.Block{Kind: api.Heading, Level: level, Text: s}
}

func code(info, s string) api.Block { return api.Block{Kind: api.Code, Info: info, Text: s} }

func raw(s string) api.Block { return api.Block{Kind: api.HTML, Text: s} }

func numbered(start int, kids ...api.Block) api.Block {
	return api.Block{Kind: api.List, Ordered: true, Start: start, Kids: kids}
}

func TestHeading(t *testing.T) {
	for n := 1; n <= 6; n++ {
		want := fmt.Sprintf("<h%d>a &amp; <em>b</em></h%d>\n", n, n)
		checkBlocks(t, want, heading(n, "a & *b*"))
		check(t, many("#", n)+" a & *b* "+many("#", n), want)
	}
	check(t, "a\nb\n===\nc\n---", "<h1>a\nb</h1>\n<h2>c</h2>\n")
	check(t, "#", "<h1></h1>\n")
	checkBlocks(t, "<h1>a</h1>\n<h2>b</h2>\n", heading(1, "a"), heading(2, "b"))
	checkBlocks(t, "<h0></h0>\n<h-7>a</h-7>\n<h123456>b</h123456>\n", heading(0, ""), heading(-7, "a"), heading(123456, "b"))
	checkBlocks(t, "<ul>\n<li>\n<h1>a</h1>\n</li>\n</ul>\n", tight(item(heading(1, "a"))))
}

// TestPara: it is bare in an Item of a tight List alone, and nowhere deeper in that.
func TestPara(t *testing.T) {
	checkBlocks(t, "<p>a</p>\n", para("a"))
	checkBlocks(t, "<p></p>\n", para(""))
	checkBlocks(t, "<p>a</p>\n<p>b</p>\n", para("a"), para("b"))
	checkBlocks(t, "<ul>\n<li>a</li>\n</ul>\n", tight(item(para("a"))))
	checkBlocks(t, "<ul>\n<li>\n<p>a</p>\n</li>\n</ul>\n", loose(item(para("a"))))
	checkBlocks(t, "<li>\n<p>a</p>\n</li>\n", item(para("a")))
	checkBlocks(t, "<blockquote>\n<p>a</p>\n</blockquote>\n", quote(para("a")))
	checkBlocks(t, "<blockquote>\n<li>\n<p>a</p>\n</li>\n</blockquote>\n", quote(item(para("a"))))
	checkBlocks(t, "<ul>\n<p>a</p>\n</ul>\n", tight(para("a")))
	checkBlocks(t, "<ul>\n<li>\n<blockquote>\n<p>a</p>\n</blockquote>\n</li>\n</ul>\n", tight(item(quote(para("a")))))
	checkBlocks(t, "<ul>\n<li>ab</li>\n</ul>\n", tight(item(para("a"), para("b"))))
	checkBlocks(t, "<ul>\n<li></li>\n</ul>\n", tight(item(para(""))))
}

// TestParaBetweenLists: the List that counts is the one in which the Item stands, not one around that.
func TestParaBetweenLists(t *testing.T) {
	checkBlocks(t, "<ul>\n<li>a\n<ul>\n<li>\n<p>b</p>\n</li>\n</ul>\nc</li>\n</ul>\n", tight(item(para("a"), loose(item(para("b"))), para("c"))))
	checkBlocks(t, "<ul>\n<li>\n<p>a</p>\n<ul>\n<li>b</li>\n</ul>\n<p>c</p>\n</li>\n</ul>\n", loose(item(para("a"), tight(item(para("b"))), para("c"))))
	checkBlocks(t, "<ul>\n<li>a<li>\n<p>b</p>\n</li>\nc</li>\n</ul>\n", tight(item(para("a"), item(para("b")), para("c"))))
	checkBlocks(t, "<ul>\n<blockquote>\n<li>\n<p>a</p>\n</li>\n</blockquote>\n</ul>\n", tight(quote(item(para("a")))))
	checkBlocks(t, "<ul>\n<ul>\n<li>\n<p>a</p>\n</li>\n</ul>\n<li>b</li>\n</ul>\n", tight(loose(item(para("a"))), item(para("b"))))
	checkBlocks(t, "<ul>\n<ul>\n<li>a</li>\n</ul>\n<li>\n<p>b</p>\n</li>\n</ul>\n", loose(tight(item(para("a"))), item(para("b"))))
	checkBlocks(t, "<ul>\n<li>a</li>\n</ul>\n<li>\n<p>b</p>\n</li>\n<p>c</p>\n", tight(item(para("a"))), item(para("b")), para("c"))
}

// TestTightOfOthers: of a List alone it means something.
func TestTightOfOthers(t *testing.T) {
	q, i := quote(item(para("a"))), item(para("a"))
	q.Tight, i.Tight = true, true
	checkBlocks(t, "<blockquote>\n<li>\n<p>a</p>\n</li>\n</blockquote>\n", q)
	checkBlocks(t, "<li>\n<p>a</p>\n</li>\n", i)
	checkBlocks(t, "<ul>\n<li>\n<p>a</p>\n</li>\n</ul>\n", loose(i))
}

func TestCode(t *testing.T) {
	for info, open := range map[string]string{
		"":                "<code>",
		" ":               "<code>",
		"\t \t":           "<code>",
		"go":              `<code class="language-go">`,
		"go x y":          `<code class="language-go">`,
		" go":             `<code class="language-go">`,
		"\tgo\tx":         `<code class="language-go">`,
		" \t  go \t":      `<code class="language-go">`,
		"a<b>\"&'":        `<code class="language-a&lt;b&gt;&quot;&amp;'">`,
		"ä\u00a0b c":      "<code class=\"language-ä\u00a0b\">",
		"a\nb c":          "<code class=\"language-a\nb\">",
		"\na":             "<code class=\"language-\na\">",
		"language-go *a*": `<code class="language-language-go">`,
	} {
		checkBlocks(t, "<pre>"+open+"x\n</code></pre>\n", code(info, "x\n"))
	}
	checkBlocks(t, "<pre><code></code></pre>\n", code("", ""))
	checkBlocks(t, "<pre><code>a</code></pre>\n<pre><code>\n\n</code></pre>\n", code("", "a"), code("", "\n\n"))
	checkBlocks(t, "<pre><code>&lt;a b=&quot;&amp;amp;&quot;&gt; *c* `d` \\e [x](y)\n</code></pre>\n", code("", "<a b=\"&amp;\"> *c* `d` \\e [x](y)\n"))
	check(t, "    a\n\n    <b>\n", "<pre><code>a\n\n&lt;b&gt;\n</code></pre>\n")
	check(t, "~~~ \t a&amp;b c\nd\n~~~", "<pre><code class=\"language-a&amp;b\">d\n</code></pre>\n")
	check(t, "- ```\n  a\n  ```\n  b", "<ul>\n<li>\n<pre><code>a\n</code></pre>\nb</li>\n</ul>\n")
}

func TestHTML(t *testing.T) {
	checkBlocks(t, "<b>\n", raw("<b>"))
	checkBlocks(t, "<b>\n", raw("<b>\n"))
	checkBlocks(t, "<b>\n\n", raw("<b>\n\n"))
	checkBlocks(t, "*a* & \"<\" \\> [x](y)\n", raw("*a* & \"<\" \\> [x](y)"))
	checkBlocks(t, "")
	checkBlocks(t, "", raw(""))
	checkBlocks(t, "\n", raw("\n"))
	checkBlocks(t, "\n\na\n<p>b</p>\n", raw("\n\na"), para("b"))
	checkBlocks(t, "<a>\n<b>\n<p>c</p>\n<d>\n", raw("<a>"), raw("<b>\n"), para("c"), raw("<d>"))
	checkBlocks(t, "<ul>\n<li>a\n<b>\nc</li>\n</ul>\n", tight(item(para("a"), raw("<b>"), para("c"))))
	check(t, "<div>\n*a* & b\n\n<!-- c -->d\n", "<div>\n*a* & b\n<!-- c -->d\n")
}

func TestRule(t *testing.T) {
	checkBlocks(t, "<hr />\n", rule())
	checkBlocks(t, "<hr />\n<hr />\n", rule(), rule())
	checkBlocks(t, "<ul>\n<li>a\n<hr />\nb</li>\n</ul>\n", tight(item(para("a"), rule(), para("b"))))
	check(t, "***\na\n\n---", "<hr />\n<p>a</p>\n<hr />\n")
}

func TestQuote(t *testing.T) {
	checkBlocks(t, "<blockquote>\n</blockquote>\n", quote())
	checkBlocks(t, "<blockquote>\n</blockquote>\n<blockquote>\n</blockquote>\n", quote(), quote())
	checkBlocks(t, "<blockquote>\n<p>a</p>\n<hr />\n</blockquote>\n", quote(para("a"), rule()))
	checkBlocks(t, "<blockquote>\n<blockquote>\n</blockquote>\n</blockquote>\n", quote(quote()))
	checkBlocks(t, "<ul>\n<li>a\n<blockquote>\n</blockquote>\nb</li>\n</ul>\n", tight(item(para("a"), quote(), para("b"))))
	checkBlocks(t, "<blockquote>\n</blockquote>\n", quote(api.Block{Kind: 77}))
	check(t, ">", "<blockquote>\n</blockquote>\n")
	check(t, "> a\nb\n> > c", "<blockquote>\n<p>a\nb</p>\n<blockquote>\n<p>c</p>\n</blockquote>\n</blockquote>\n")
}

func TestList(t *testing.T) {
	checkBlocks(t, "<ul>\n</ul>\n", tight())
	checkBlocks(t, "<ul>\n</ul>\n<ul>\n</ul>\n", loose(), tight())
	checkBlocks(t, "<ul>\n<li>a</li>\n<li>b</li>\n</ul>\n", tight(item(para("a")), item(para("b"))))
	checkBlocks(t, "<ul>\n<hr />\n</ul>\n", tight(rule()))
	checkBlocks(t, "<ul>\n<li>a\n<ul>\n</ul>\nb</li>\n</ul>\n", tight(item(para("a"), loose(), para("b"))))
	checkBlocks(t, "<ol>\n</ol>\n", numbered(1))
	checkBlocks(t, "<ol>\n<li>\n<p>a</p>\n</li>\n</ol>\n", numbered(1, item(para("a"))))
	for _, n := range []int{0, 2, 3, 10, 999999999, -1, -20, 1 << 40} {
		checkBlocks(t, fmt.Sprintf("<ol start=\"%d\">\n<li></li>\n</ol>\n", n), numbered(n, item()))
	}
	ordered := tight(item(para("a")))
	ordered.Ordered, ordered.Start = true, 7
	checkBlocks(t, "<ol start=\"7\">\n<li>a</li>\n</ol>\n", ordered)
	for _, n := range []int{0, 1, 2, -1} {
		checkBlocks(t, "<ul>\n</ul>\n", api.Block{Kind: api.List, Start: n})
	}
	check(t, "1. a\n2. b", "<ol>\n<li>a</li>\n<li>b</li>\n</ol>\n")
	check(t, "0) a", "<ol start=\"0\">\n<li>a</li>\n</ol>\n")
	check(t, "001. a", "<ol>\n<li>a</li>\n</ol>\n")
	check(t, "+ a\n\n+ b\n* c", "<ul>\n<li>\n<p>a</p>\n</li>\n<li>\n<p>b</p>\n</li>\n</ul>\n<ul>\n<li>c</li>\n</ul>\n")
}

// TestItem: no line begins ahead of it, one begins behind it.
func TestItem(t *testing.T) {
	checkBlocks(t, "<li></li>\n", item())
	checkBlocks(t, "<li></li>\n<li></li>\n", item(), item())
	checkBlocks(t, "<ul>\n<li></li>\n<li></li>\n</ul>\n", tight(item(), item()))
	checkBlocks(t, "<ul>\n<li></li>\n</ul>\n", loose(item()))
	checkBlocks(t, "<li><li></li>\n</li>\n", item(item()))
	checkBlocks(t, "<ul>\n<li>a<li></li>\n</li>\n</ul>\n", tight(item(para("a"), item())))
	checkBlocks(t, "<li></li>\n", item(api.Block{Kind: -1}))
	check(t, "-\n- \n- a", "<ul>\n<li></li>\n<li></li>\n<li>a</li>\n</ul>\n")
}

// TestOtherKinds: nothing is written of them, nor of what is in them, and no line begins.
func TestOtherKinds(t *testing.T) {
	for _, kind := range []int{0, -1, 9, 10, 100, -1 << 62} {
		other := api.Block{Kind: kind, Level: 1, Text: "a", Info: "b", Ordered: true, Tight: true, Start: 3, Kids: []api.Block{para("c"), rule()}}
		checkBlocks(t, "", other)
		checkBlocks(t, "<p>a</p>\n<hr />\n", para("a"), other, rule())
		checkBlocks(t, "<ul>\n<li>ab</li>\n</ul>\n", tight(item(para("a"), other, para("b")), other))
	}
}

// TestFieldsOfOthers: fields that say nothing of a kind are not written.
func TestFieldsOfOthers(t *testing.T) {
	full := func(kind int) api.Block {
		return api.Block{Kind: kind, Level: 4, Text: "*t*", Info: "i j", Ordered: true, Tight: true, Start: 5, Kids: []api.Block{rule()}}
	}
	for kind, want := range map[int]string{
		api.Quote:   "<blockquote>\n<hr />\n</blockquote>\n",
		api.List:    "<ol start=\"5\">\n<hr />\n</ol>\n",
		api.Item:    "<li>\n<hr />\n</li>\n",
		api.Heading: "<h4><em>t</em></h4>\n",
		api.Para:    "<p><em>t</em></p>\n",
		api.Code:    "<pre><code class=\"language-i\">*t*</code></pre>\n",
		api.HTML:    "*t*\n",
		api.Rule:    "<hr />\n",
	} {
		checkBlocks(t, want, full(kind))
	}
}

// TestLineBegins: each block that begins a line behind each end: nothing yet, a line feed, another byte.
func TestLineBegins(t *testing.T) {
	for _, c := range []struct {
		b    api.Block
		want string
	}{
		{heading(1, "x"), "<h1>x</h1>\n"},
		{code("", "x"), "<pre><code>x</code></pre>\n"},
		{raw("x"), "x\n"},
		{rule(), "<hr />\n"},
		{quote(), "<blockquote>\n</blockquote>\n"},
		{tight(), "<ul>\n</ul>\n"},
		{numbered(2), "<ol start=\"2\">\n</ol>\n"},
	} {
		checkBlocks(t, c.want, c.b)
		checkBlocks(t, "\n"+c.want, raw("\n"), c.b)
		checkBlocks(t, "a\n"+c.want, raw("a\n"), c.b)
		checkBlocks(t, "<p>a</p>\n"+c.want, para("a"), c.b)
		checkBlocks(t, c.want+c.want+c.want, c.b, c.b, c.b)
		checkBlocks(t, "<ul>\n<li>\n"+c.want+"</li>\n</ul>\n", tight(item(c.b)))
		checkBlocks(t, "<ul>\n<li>a\n"+c.want+"b</li>\n</ul>\n", tight(item(para("a"), c.b, para("b"))))
	}
	// A Para may end with a line feed that is none of its tags'.
	checkBlocks(t, "<ul>\n<li>a\n\n<hr />\n</li>\n</ul>\n", tight(item(para("a\n\n"), rule())))
}
