package leaf

import (
	"math"
	"regexp"
	"slices"
	"strings"
	"testing"
)

// textNames and blockNames are the names of the kinds 1 and 6.
func textNames() []string {
	return []string{"script", "pre", "style", "textarea"}
}

func blockNames() []string {
	return strings.Fields(`address article aside blockquote body center dd details dialog div dl dt fieldset figure footer form frame
		h1 h2 h3 h4 h5 h6 head header hr html iframe legend li link main menu nav ol option p section summary
		table tbody td tfoot th thead title tr ul`)
}

// otherNames are near to those that have a meaning, and have none.
func otherNames() []string {
	return strings.Fields(`a b x h h0 h7 h10 hea heade headers pres prex scripts styles textareas textare pre-x pre- script1 p1 p- pp di divs div-x u tbod tr1 o
		base basefont caption col colgroup dir figcaption frameset menuitem noframes optgroup param search source track textarea-`)
}

// cases are a name in small letters, in great ones, and in each mix of which one letter is another.
func cases(name string) []string {
	l := []string{name, strings.ToUpper(name)}
	for i := range name {
		l = append(l, name[:i]+strings.ToUpper(name[i:i+1])+name[i+1:])
	}
	return l
}

func TestHTMLCases(t *testing.T) {
	cases := map[string]int{
		"<DIV": 6, `<a href="x">`: 7, "<a": 0, "<pre>": 1,
		"": 0, "<": 0, ">": 0, "<>": 0, "</": 0, "</>": 0, "< div>": 0, "<<div>": 0, "div>": 0, " <div>": 0, "\\<div>": 0, "&lt;div>": 0,
		"<!--": 2, "<!-->": 2, "<!-- a": 2, "<!--a-->b": 2, "<!---": 2, "<!-": 0, "<!": 0, "<!- -": 0, "< !--": 0,
		"<?": 3, "<?>": 3, "<?php a": 3, "<?a?>b": 3, "<? ": 3, "< ?": 0,
		"<!a": 4, "<!Z": 4, "<!DOCTYPE html>": 4, "<!doctype": 4, "<!>": 0, "<! a": 0, "<!1": 0, "<!?": 0, "<!\u00e4": 0, "<!cdata[": 4,
		"<![CDATA[": 5, "<![CDATA[]]>": 5, "<![CDATA[a": 5, "<![CDATA": 0, "<![CDATA ": 0, "<![cdata[": 0, "<![CDATa[": 0, "<!CDATA[": 4, "<![ CDATA[": 0,
		"<div/>": 6, "<div/": 0, "<div/ >": 0, "<div//>": 0, "</div/>": 6, "</div": 6, "<div a": 6, "<div *": 6, "<div>a</div>": 6, "<div<": 0, "<div.": 0, "<div=": 0, "<div\n>": 7, "<div\n": 0, "<div\r": 0,
		"< /div>": 0, "<//div>": 0, "</ div>": 0, "<1>": 0, "<p": 6, "<p>": 6, "<p1>": 7, "<h7>": 7, "<h1": 6, "<H6": 6,
		"<a>": 7, "</a>": 7, "<a/>": 7, "<a> ": 7, "<a>\t \t": 7, "<a>\n": 0, "<a>\r": 0, "<a> b": 0, "<a>b": 0, "<a></a>": 0, "<a>>": 0, "<a><!--": 0,
		"<a b='c' d/>": 7, "<a b=c>  ": 7, "</a >": 7, "</a b>": 0, "<a b='c'd>": 0, "<a b='>": 0, "<i-1>": 7, "<http://a>": 0, "<a@b>": 0,
		"<script": 1, "<script>a": 1, "<pre a": 1, "<style\t": 1, "<textarea ": 1, "<pre/>": 0, "<pre/": 0, "<script />": 1, "<script/ >": 0,
		"</pre>": 0, "</script": 0, "</style >": 0, "</TEXTAREA>": 0, "</pre> a": 0, "<pre\n>": 0, "<prex>": 7, "<pre-x>": 7, "</pre-x>": 7, "<pre.x>": 0, "</prex>": 7, "<PRE": 1,
	}
	for s, want := range cases {
		if got := HTML(s); got != want {
			t.Errorf("HTML(%q) is %d, not %d", s, got, want)
		}
	}
}

// TestHTMLNames goes over all names in letters of either case, with each thing behind them.
func TestHTMLNames(t *testing.T) {
	type want struct{ open, closing int }
	kinds := []struct {
		names []string
		wants map[string]want
	}{
		{textNames(), map[string]want{
			"": {1, 0}, " ": {1, 0}, "\t": {1, 0}, ">": {1, 0}, " a": {1, 0}, "\ta=": {1, 0}, ">a": {1, 0}, " />": {1, 0}, "/>": {0, 0}, "/": {0, 0}, "a": {0, 0}, "\n": {0, 0}, ".": {0, 0}, "\x00": {0, 0}, "\u00a0": {0, 0},
		}},
		{blockNames(), map[string]want{
			"": {6, 6}, " ": {6, 6}, "\t": {6, 6}, ">": {6, 6}, "/>": {6, 6}, " a": {6, 6}, "\ta=": {6, 6}, ">a": {6, 6}, "/>a": {6, 6}, " />": {6, 6}, "/": {0, 0}, "/ >": {0, 0}, ".": {0, 0}, "\n": {0, 0}, "-": {0, 0}, "<": {0, 0}, "\x00": {0, 0}, "\u00a0": {0, 0},
		}},
		{otherNames(), map[string]want{
			"": {0, 0}, " ": {0, 0}, "\t": {0, 0}, ">": {7, 7}, "/>": {7, 0}, " >": {7, 7}, "> \t": {7, 7}, " a": {0, 0}, ">a": {0, 0}, " a>": {7, 0}, "/": {0, 0}, ".": {0, 0}, "\u00a0": {0, 0},
		}},
	}
	for _, k := range kinds {
		for _, name := range k.names {
			for _, n := range cases(name) {
				for rest, w := range k.wants {
					if got := HTML("<" + n + rest); got != w.open {
						t.Errorf("HTML(%q) is %d, not %d", "<"+n+rest, got, w.open)
					}
					if got := HTML("</" + n + rest); got != w.closing {
						t.Errorf("HTML(%q) is %d, not %d", "</"+n+rest, got, w.closing)
					}
				}
			}
		}
	}
}

// TestHTMLCutNames: a name that is cut off, or goes on, is another name.
func TestHTMLCutNames(t *testing.T) {
	all := append(textNames(), blockNames()...)
	for _, name := range all {
		for _, near := range []string{name[:len(name)-1], name[1:], name + "x", "x" + name, name + "1", name + "-"} {
			if near == "" || slices.Contains(all, near) {
				continue
			}
			if got := HTML("<" + near); got != 0 {
				t.Errorf("HTML(%q) is %d", "<"+near, got)
			}
		}
	}
}

// TestHTMLFarLetters: letters beyond ASCII are none of the names' letters, whatever they would be in the other case.
func TestHTMLFarLetters(t *testing.T) {
	far := map[string]string{"s": "\u017f", "k": "\u212a", "i": "\u0130"}
	for _, name := range append(textNames(), blockNames()...) {
		for near, letter := range far {
			other := strings.Replace(name, near, letter, 1)
			if other == name {
				continue
			}
			for _, s := range []string{"<" + other, "<" + other + ">", "</" + other + ">"} {
				if got := HTML(s); got != 0 {
					t.Errorf("HTML(%q) is %d", s, got)
				}
			}
			if Ends(1, "</"+other+">") {
				t.Errorf("Ends of %q", other)
			}
		}
	}
}

func TestEndsCases(t *testing.T) {
	cases := []struct {
		kind int
		line string
		want bool
	}{
		{1, "", false},
		{1, "a</PRE>b", true},
		{1, "</script>", true},
		{1, "</pre", false},
		{1, "</pre >", false},
		{1, "</pre\n>", false},
		{1, "</pre/>", false},
		{1, "<pre>", false},
		{1, "< /pre>", false},
		{1, "</ pre>", false},
		{1, "<//pre>", false},
		{1, "</</pre>", true},
		{1, "<</pre>", true},
		{1, "</pre</pre>", true},
		{1, "</prex></pre>", true},
		{1, "</prex>", false},
		{1, "</pre->", false},
		{1, "</xpre>", false},
		{1, "</div></pre></div>", true},
		{1, "</div>", false},
		{1, "--> ?> ]]> >", false},
		{1, "\\</pre>", true},
		{2, "-->", true},
		{2, "<!-->", true},
		{2, "<!--->", true},
		{2, "a --> b", true},
		{2, "--->", true},
		{2, "->", false},
		{2, "-- >", false},
		{2, "--", false},
		{2, "", false},
		{2, "?> ]]> > </pre>", false},
		{3, "?>", true},
		{3, "<?>", true},
		{3, "a?>b", true},
		{3, "??>", true},
		{3, "? >", false},
		{3, "?", false},
		{3, "", false},
		{3, "--> ]]> > </pre>", false},
		{4, ">", true},
		{4, "<!a>b", true},
		{4, "a", false},
		{4, "<!a", false},
		{4, "", false},
		{5, "]]>", true},
		{5, "a]]]>b", true},
		{5, "]>", false},
		{5, "]] >", false},
		{5, "]]", false},
		{5, "", false},
		{5, "--> ?> > </pre>", false},
	}
	for _, c := range cases {
		if got := Ends(c.kind, c.line); got != c.want {
			t.Errorf("Ends(%d, %q) is %v", c.kind, c.line, got)
		}
	}
}

// TestEndsOtherKinds: no line ends what is of the kinds 6 and 7, or of none.
func TestEndsOtherKinds(t *testing.T) {
	for _, kind := range []int{math.MinInt, -2, -1, 0, 6, 7, 8, 9, 257, math.MaxInt} {
		for _, s := range []string{"", " ", ">", "/>", "-->", "?>", "]]>", "</pre>", "</div>", "<a>", "</script>-->?>]]>"} {
			if Ends(kind, s) {
				t.Errorf("Ends(%d, %q) holds", kind, s)
			}
		}
	}
}

// TestEndsNames goes over the names in letters of either case, and what stands around them.
func TestEndsNames(t *testing.T) {
	for _, name := range textNames() {
		for _, n := range cases(name) {
			for _, ahead := range []string{"", "a", " ", "<" + name + ">", "</", "<", "</div>", "</" + name, "\x00\xff"} {
				if !Ends(1, ahead+"</"+n+">") || !Ends(1, ahead+"</"+n+">"+ahead) {
					t.Errorf("Ends of %q behind %q does not hold", n, ahead)
				}
				if Ends(1, ahead+"</"+n) || Ends(1, ahead+"</"+n+" >") || Ends(1, ahead+"</"+n+"x>") {
					t.Errorf("Ends of %q cut off, behind %q, holds", n, ahead)
				}
			}
		}
	}
	for _, name := range append(blockNames(), otherNames()...) {
		if Ends(1, "</"+name+">") {
			t.Errorf("Ends of %q holds", name)
		}
	}
}

// htmlReader tells the kinds by patterns.
type htmlReader struct {
	begin, end []*regexp.Regexp
	text       *regexp.Regexp
}

// either is a name in letters of either case, as a pattern: those of ASCII alone.
func either(names []string) string {
	var l []string
	for _, name := range names {
		p := ""
		for _, r := range name {
			p += "[" + string(r) + strings.ToUpper(string(r)) + "]"
		}
		l = append(l, p)
	}
	return "(?:" + strings.Join(l, "|") + ")"
}

func newHTMLReader() htmlReader {
	const (
		lineGap   = `[ \t]*\n?[ \t]*`
		someGap   = `(?:[ \t]+\n?[ \t]*|\n[ \t]*)`
		name      = `[A-Za-z][A-Za-z0-9-]*`
		value     = "(?:[^\\t\\n \"'=<>`]+|'[^']*'|\"[^\"]*\")"
		attribute = someGap + `[A-Za-z_:][A-Za-z0-9_.:-]*(?:` + lineGap + `=` + lineGap + value + `)?`
		tag       = `(?:<` + name + `(?:` + attribute + `)*` + lineGap + `/?>|</` + name + lineGap + `>)`
	)
	text, block := either(textNames()), either(blockNames())
	var r htmlReader
	for _, p := range []string{`<` + text + `(?:[ \t>]|$)`, `<!--`, `<\?`, `<![A-Za-z]`, `<!\[CDATA\[`, `</?` + block + `(?:[ \t>]|/>|$)`, tag + `[ \t]*$`} {
		r.begin = append(r.begin, regexp.MustCompile("^"+p))
	}
	for _, p := range []string{`</` + text + `>`, `-->`, `\?>`, `>`, `\]\]>`} {
		r.end = append(r.end, regexp.MustCompile(p))
	}
	r.text = regexp.MustCompile(`^</?` + text + `(?:[^A-Za-z0-9-]|$)`)
	return r
}

func (r htmlReader) kind(s string) int {
	for i, p := range r.begin {
		if p.MatchString(s) && (i != 6 || !r.text.MatchString(s)) {
			return i + 1
		}
	}
	return 0
}

// check holds HTML and Ends of a line against the patterns, and tells the kind.
func (r htmlReader) check(t *testing.T, s string) int {
	t.Helper()
	want := r.kind(s)
	if got := HTML(s); got != want {
		t.Fatalf("HTML(%q) is %d, not %d", s, got, want)
	}
	for i, p := range r.end {
		if is := p.MatchString(s); Ends(i+1, s) != is {
			t.Fatalf("Ends(%d, %q) is %v", i+1, s, !is)
		}
	}
	return want
}

func TestHTMLByPattern(t *testing.T) {
	r := newHTMLReader()
	found := [8]int{}
	check := func(s string) { found[r.check(t, s)]++ }
	eachText([]string{"<", ">", "/", "!", "?", "--", "a", "pre", "Div", "[CDATA[", "]]", " "}, 4, check)
	eachText([]string{">", "/", "!", "-", "a", "PRE", "p", "=", "'b'", " ", "\t", "\n"}, 4, func(s string) {
		check("<" + s)
		check("<a" + s)
		check("</pre" + s)
		check("<" + s + ">")
	})
	eachFrame([]string{
		"@", "<@", "<@>", "<@a>", "<!@", "<!@a", "<!-@", "<!--@", "<?@", "@!--", "<!@CDATA[", "<![CDATA@", "<![@DATA[",
		"<@cript>", "<scrip@>", "<script@", "<script@>", "<script@ a", "</script@", "</scrip@>", "</script@>", "<@/script>", "@/pre>", "<@pre>", "</@pre>",
		"<di@", "<di@>", "<div@", "<div@>", "<div/@", "</div@", "</div/@", "</@div>", "<h@", "<h@>", "<h1@", "<@1", "<lin@>",
		"<a@", "<a@>", "<a>@", "<a> @", "</a@>", "</a>@", "<a @>", "<a b=@>", "<a b='@'>",
		"-@>", "@->", "--@", "@>", "?@", "@]>", "]@>", "]]@",
	}, check)
	if slices.Contains(found[:], 0) {
		t.Errorf("found %v", found)
	}
}
