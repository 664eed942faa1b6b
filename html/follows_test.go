package html

import (
	"regexp"
	"strings"
	"testing"

	"scriptorium/api"
	"scriptorium/block"
	"scriptorium/inline"
	"scriptorium/runes"
)

// tags are those of the tables, with what may stand in them.
var tags = regexp.MustCompile(`^(?:<(/?)(h[1-6]|p|pre|code|blockquote|ul|ol|li|em|strong|a)>` +
	`|<(code) class="language-[^"<> \t]+">|<(ol) start="(?:0|[2-9]|[1-9][0-9]{1,8})">` +
	`|<(a) href="[^"<>\s]*"(?: title="[^"<>]+")?>` +
	`|<img src="[^"<>\s]*" alt="[^"<>]*"(?: title="[^"<>]+")? />|<br />\n|<hr />\n)`)

// hasHTML tells whether a document has HTML in it.
func hasHTML(l []api.Block, defs []api.Def) bool {
	for _, b := range l {
		text := b.Kind == api.Para || b.Kind == api.Heading
		if b.Kind == api.HTML || text && hasRaw(inline.Parse(b.Text, defs)) || hasHTML(b.Kids, defs) {
			return true
		}
	}
	return false
}

func hasRaw(l []api.Inline) bool {
	for _, x := range l {
		if x.Kind == api.Raw || hasRaw(x.Kids) {
			return true
		}
	}
	return false
}

// tagFault is what is wrong with the tags of some HTML: one that is none of the tables', or that is not closed where it should be; nothing, if all is right.
func tagFault(h string) string {
	var open []string
	for i := strings.IndexByte(h, '<'); i >= 0; i = strings.IndexByte(h, '<') {
		h = h[i:]
		m := tags.FindStringSubmatch(h)
		if m == nil {
			return "no tag: " + h
		}
		name := m[2] + m[3] + m[4] + m[5]
		switch {
		case m[1] == "" && name != "":
			open = append(open, name)
		case m[1] == "/" && (len(open) == 0 || open[len(open)-1] != name):
			return "closes nothing: " + h
		case m[1] == "/":
			open = open[:len(open)-1]
		}
		h = h[1:]
	}
	return strings.Join(open, " ")
}

// documents are pieces of which texts are made: each row has what some kinds of blocks and parts are made of.
func documents() [][]string {
	return [][]string{
		{"a", "\n", "- ", "> ", "    ", "1. ", "2) ", "# "},
		{"a", "\n", "```", " x", "---", "<", ">", "    "},
		{"a", "<", "b", "*", "`", "[", "](c)", "&lt;"},
		{"<http://a>", "<", ">", "\"", "![", "](b \"c\")", "**", "  \n"},
		{"[a]", ": /b '<'\n", "\n", "<b>", "<div>", "- ", "&", "\\<"},
		{"- ", "+ ", "a", "\n\n", "  ", "\n", "> "},
	}
}

// TestEveryAngleIsOfATag goes over all short documents; those without HTML have the tables' tags alone, each closed.
func TestEveryAngleIsOfATag(t *testing.T) {
	without := 0
	for _, pieces := range documents() {
		eachText(pieces, 5, func(s string) {
			l, defs := block.Parse(runes.Clean([]byte(s)))
			h := Render([]byte(s))
			if h != "" && !strings.HasSuffix(h, "\n") {
				t.Fatalf("Render(%q) is %q", s, h)
			}
			if hasHTML(l, defs) {
				return
			}
			without++
			if f := tagFault(h); f != "" {
				t.Fatalf("Render(%q) is %q: %s", s, h, f)
			}
		})
	}
	if without < 100000 {
		t.Errorf("only %d documents had no HTML", without)
	}
}

// piece is one of what another reading writes: a text, or the beginning of a line.
type piece struct {
	text  string
	begin bool
}

// joined writes pieces one behind the other.
func joined(l []piece) string {
	h := ""
	for _, p := range l {
		if p.begin && h != "" && !strings.HasSuffix(h, "\n") {
			h += "\n"
		}
		h += p.text
	}
	return h
}

// otherBlock reads the table of blocks once more: what is around a block is handed on, the innermost one first.
func otherBlock(b api.Block, around []api.Block, defs []api.Def) []piece {
	begin := piece{begin: true}
	kids := func() []piece {
		var l []piece
		for _, k := range b.Kids {
			l = append(l, otherBlock(k, append([]api.Block{b}, around...), defs)...)
		}
		return l
	}
	row := func(l ...any) []piece {
		var out []piece
		for _, x := range l {
			switch y := x.(type) {
			case piece:
				out = append(out, y)
			case string:
				out = append(out, piece{text: y})
			case []piece:
				out = append(out, y...)
			}
		}
		return out
	}
	text := otherParts(nil)
	if b.Kind == api.Heading || b.Kind == api.Para {
		text = otherParts(inline.Parse(b.Text, defs))
	}
	switch b.Kind {
	case api.Heading:
		n := string(rune('0' + b.Level))
		return row(begin, "<h", n, ">", text, "</h", n, ">", begin)
	case api.Para:
		if len(around) > 1 && around[0].Kind == api.Item && around[1].Kind == api.List && around[1].Tight {
			return row(text)
		}
		return row(begin, "<p>", text, "</p>", begin)
	case api.Code:
		words := strings.FieldsFunc(b.Info, func(r rune) bool { return r == ' ' || r == '\t' })
		if len(words) == 0 {
			return row(begin, "<pre><code>", asHTML.Replace(b.Text), "</code></pre>", begin)
		}
		return row(begin, "<pre><code class=\"language-", asHTML.Replace(words[0]), "\">", asHTML.Replace(b.Text), "</code></pre>", begin)
	case api.HTML:
		return row(begin, b.Text, begin)
	case api.Rule:
		return row(begin, "<hr />", begin)
	case api.Quote:
		return row(begin, "<blockquote>", begin, kids(), begin, "</blockquote>", begin)
	case api.List:
		switch {
		case !b.Ordered:
			return row(begin, "<ul>", begin, kids(), begin, "</ul>", begin)
		case b.Start == 1:
			return row(begin, "<ol>", begin, kids(), begin, "</ol>", begin)
		}
		return row(begin, "<ol start=\"", string(rune('0'+b.Start)), "\">", begin, kids(), begin, "</ol>", begin)
	case api.Item:
		return row("<li>", kids(), "</li>", begin)
	}
	return nil
}

var asHTML = strings.NewReplacer("&", "&amp;", "<", "&lt;", ">", "&gt;", "\"", "&quot;")

// otherParts reads the table of parts once more. The places to which links lead are those that URL leaves as they are.
func otherParts(l []api.Inline) string {
	h := ""
	for _, x := range l {
		title := ""
		if x.Title != "" {
			title = " title=\"" + asHTML.Replace(x.Title) + "\""
		}
		h += map[int]string{
			api.Text:   asHTML.Replace(x.Text),
			api.Soft:   "\n",
			api.Hard:   "<br />\n",
			api.Span:   "<code>" + asHTML.Replace(x.Text) + "</code>",
			api.Emph:   "<em>" + otherParts(x.Kids) + "</em>",
			api.Strong: "<strong>" + otherParts(x.Kids) + "</strong>",
			api.Link:   "<a href=\"" + x.Dest + "\"" + title + ">" + otherParts(x.Kids) + "</a>",
			api.Image:  "<img src=\"" + x.Dest + "\" alt=\"" + asHTML.Replace(otherAlt(x.Kids)) + "\"" + title + " />",
			api.Raw:    x.Text,
		}[x.Kind]
	}
	return h
}

func otherAlt(l []api.Inline) string {
	s := ""
	for _, x := range l {
		s += map[int]string{api.Text: x.Text, api.Span: x.Text, api.Soft: "\n", api.Hard: "\n"}[x.Kind] + otherAlt(x.Kids)
	}
	return s
}

func checkOther(t *testing.T, l []api.Block, defs []api.Def) {
	t.Helper()
	var pieces []piece
	for _, b := range l {
		pieces = append(pieces, otherBlock(b, nil, defs)...)
	}
	if got, want := Write(l, defs), joined(pieces); got != want {
		t.Fatalf("Write(%+v) is\n%q, not\n%q", l, got, want)
	}
}

// TestOtherReadingOfBlocks goes over all small trees of blocks of all kinds, in any order.
func TestOtherReadingOfBlocks(t *testing.T) {
	ordered := api.Block{Kind: api.List, Ordered: true, Start: 1, Tight: true}
	leaves := []api.Block{para("a *b*"), para(""), heading(2, "[x]"), code(" g h", "<"), code("\t", ""), raw("c"), raw("d\n"), rule(), quote(), tight(), item(), {Kind: 12}}
	containers := []api.Block{quote(), tight(), loose(), ordered, numbered(3), item()}
	defs := []api.Def{{Label: "x", Dest: "y"}}
	var rows [][]api.Block
	for _, a := range leaves {
		rows = append(rows, []api.Block{a})
		for _, b := range leaves {
			rows = append(rows, []api.Block{a, b})
		}
	}
	var wrap func(l []api.Block, left int)
	wrap = func(l []api.Block, left int) {
		checkOther(t, l, defs)
		if left == 0 {
			return
		}
		for _, c := range containers {
			c.Kids = l
			wrap([]api.Block{c}, left-1)
			if left > 1 {
				wrap([]api.Block{para("p"), c, para("q")}, left-1)
			}
		}
	}
	for _, l := range rows {
		wrap(l, 4-len(l))
	}
}

// TestOtherReadingOfDocuments goes over all short documents.
func TestOtherReadingOfDocuments(t *testing.T) {
	for _, pieces := range documents() {
		eachText(pieces, 4, func(s string) {
			l, defs := block.Parse(runes.Clean([]byte(s)))
			checkOther(t, l, defs)
		})
	}
	for _, s := range []string{
		"# a\n\n- b\n  - c\n\n    d\n- e\n\n> f\n> 1. g\n> 2. h\n\n---\n\n```x y\n<&>\n```\n",
		"[a]: b \"c<\"\n\n![*a* `d`  \ne <f> [g](h)][a] and **[i]**[a]\n===\n",
		"1. a\n\n   > - b\n   >   c\n2. d\n\n<div>\n\n</div>\ne\n",
	} {
		l, defs := block.Parse(runes.Clean([]byte(s)))
		checkOther(t, l, defs)
	}
}

// TestAnyBytes: whatever the bytes are, they are written to their end.
func TestAnyBytes(t *testing.T) {
	for i := range 256 {
		for j := range 256 {
			c := string([]byte{byte(i), byte(j)})
			for _, s := range []string{c, "a" + c + "b", "- " + c + "\n" + c, "[" + c + "](" + c + ")", "`" + c + "`", "```" + c + "\n" + c} {
				h := Render([]byte(s))
				if h != "" && !strings.HasSuffix(h, "\n") {
					t.Fatalf("Render(%q) is %q", s, h)
				}
			}
		}
	}
}

// TestDeepAndMany: blocks and parts far beyond the limits are written to their end.
func TestDeepAndMany(t *testing.T) {
	const deep = 20000
	b := para("a")
	for range deep {
		b = tight(item(b))
	}
	checkBlocks(t, many("<ul>\n<li>\n", deep-1)+"<ul>\n<li>a</li>\n</ul>\n"+many("</li>\n</ul>\n", deep-1), b)
	for range deep {
		b = quote(b)
	}
	if h := Write([]api.Block{b}, nil); !strings.HasPrefix(h, many("<blockquote>\n", deep)+"<ul>\n") || !strings.HasSuffix(h, "</ul>\n"+many("</blockquote>\n", deep)) {
		t.Error("Quotes that stand deep in one another are not written so")
	}
	const n = 4000
	check(t, many("a\n\n", n), many("<p>a</p>\n", n))
	check(t, many("- a\n", n), "<ul>\n"+many("<li>a</li>\n", n)+"</ul>\n")
	check(t, many("**", n)+"a"+many("**", n), "<p>"+many("<strong>", n)+"a"+many("</strong>", n)+"</p>\n")
	check(t, many("![", n)+"a"+many("](b)", n), "<p><img src=\"b\" alt=\"a\" /></p>\n")
	check(t, many("<", n), "<p>"+many("&lt;", n)+"</p>\n")
	check(t, many("> ", 24)+"a", many("<blockquote>\n", 24)+"<p>a</p>\n"+many("</blockquote>\n", 24))
	check(t, many("> ", 25)+"a", many("<blockquote>\n", 24)+"<p>&gt; a</p>\n"+many("</blockquote>\n", 24))
}
