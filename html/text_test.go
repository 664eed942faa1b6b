package html

import (
	"fmt"
	"testing"

	"scriptorium/api"
	"scriptorium/escape"
)

// checkText: a text is written alike in a Para, in an Item of a tight List, in a Heading.
func checkText(t *testing.T, s, want string) {
	t.Helper()
	checkBlocks(t, "<p>"+want+"</p>\n", para(s))
	checkBlocks(t, "<h6>"+want+"</h6>\n", heading(6, s))
	checkBlocks(t, "<ul>\n<li>"+want+"</li>\n</ul>\n", tight(item(para(s))))
}

func TestText(t *testing.T) {
	checkText(t, "", "")
	checkText(t, "a", "a")
	checkText(t, `a < b > c & "d" 'e'`, "a &lt; b &gt; c &amp; &quot;d&quot; 'e'")
	checkText(t, "&lt;&amp;&quot;&copy;&x;", "&lt;&amp;&quot;©&amp;x;")
	checkText(t, `\<b\> \& \" \a`, `&lt;b&gt; &amp; &quot; \a`)
	checkText(t, "ä ∲ \U0001f600", "ä ∲ \U0001f600")
}

func TestBreaks(t *testing.T) {
	checkText(t, "a\nb", "a\nb")
	checkText(t, "a  \nb", "a<br />\nb")
	checkText(t, "a\\\nb", "a<br />\nb")
	checkText(t, "a \n b   \n c", "a\nb<br />\nc")
	checkText(t, "*a\nb  \nc*", "<em>a\nb<br />\nc</em>")
}

func TestSpan(t *testing.T) {
	checkText(t, "`a`", "<code>a</code>")
	checkText(t, "`` a`<b>&\"*c*\\` ``", "<code>a`&lt;b&gt;&amp;&quot;*c*\\`</code>")
	checkText(t, "`a\nb`", "<code>a b</code>")
	checkText(t, "`&amp;`", "<code>&amp;amp;</code>")
}

func TestEmphasis(t *testing.T) {
	checkText(t, "*a*", "<em>a</em>")
	checkText(t, "_a_ __b__", "<em>a</em> <strong>b</strong>")
	checkText(t, "**a**", "<strong>a</strong>")
	checkText(t, "***a** b*", "<em><strong>a</strong> b</em>")
	checkText(t, "***a* b**", "<strong><em>a</em> b</strong>")
	checkText(t, "*a **b *c* [d](e) `f` <g> & h***", "<em>a <strong>b <em>c</em> <a href=\"e\">d</a> <code>f</code> <g> &amp; h</strong></em>")
}

func TestLink(t *testing.T) {
	checkText(t, "[a](b)", `<a href="b">a</a>`)
	checkText(t, "[a](b 'c')", `<a href="b" title="c">a</a>`)
	checkText(t, "[a](b '')", `<a href="b">a</a>`)
	checkText(t, "[a]()", `<a href="">a</a>`)
	checkText(t, "[](<> 'c')", `<a href="" title="c"></a>`)
	checkText(t, "[*a* `b` ![c](d)](e)", `<a href="e"><em>a</em> <code>b</code> <img src="d" alt="c" /></a>`)
	checkText(t, "<http://a/ä?b&c>", `<a href="http://a/%C3%A4?b&amp;c">http://a/ä?b&amp;c</a>`)
	checkText(t, "<a@b.c>", `<a href="mailto:a@b.c">a@b.c</a>`)
}

func TestImage(t *testing.T) {
	checkText(t, "![a](b)", `<img src="b" alt="a" />`)
	checkText(t, "![a](b 'c')", `<img src="b" alt="a" title="c" />`)
	checkText(t, "![a](b '')", `<img src="b" alt="a" />`)
	checkText(t, "![]()", `<img src="" alt="" />`)
	checkText(t, "*![a](b)*", `<em><img src="b" alt="a" /></em>`)
}

// TestAlt has each kind of kid, one by one, and in others.
func TestAlt(t *testing.T) {
	for s, alt := range map[string]string{
		`a <&" > b`:                    "a &lt;&amp;&quot; &gt; b",
		"&lt;\\*":                      "&lt;*",
		"a\nb":                         "a\nb",
		"a  \nb":                       "a\nb",
		"a\\\nb":                       "a\nb",
		"`a <b>`":                      "a &lt;b&gt;",
		"*a*":                          "a",
		"**a**":                        "a",
		"[a](b 'c')":                   "a",
		"![a](b 'c')":                  "a",
		"<http://a?b&c>":               "http://a?b&amp;c",
		"<b>":                          "",
		"a<b>c</b>d":                   "acd",
		"<!-- a -->":                   "",
		"*a **b `c` [d](e)** <f>*":     "a b c d ",
		"![![![a](b) *c*](d)\n`e`](f)": "a c\ne",
		"[*a* ![**b** `c`<d>](e)](f)g": "a b cg",
		"*<b>*":                        "",
		"***a***  \n_b_":               "a\nb",
	} {
		checkText(t, "!["+s+"](u)", `<img src="u" alt="`+alt+`" />`)
		checkText(t, "![_x "+s+" y_](u 'v')", `<img src="u" alt="x `+alt+` y" title="v" />`)
		checkText(t, "![![x "+s+"](w)y](u)", `<img src="u" alt="x `+alt+`y" />`)
	}
}

func TestRaw(t *testing.T) {
	checkText(t, `<b c="&amp;" d='"'>`, `<b c="&amp;" d='"'>`)
	checkText(t, "a<!-- * & -->b<?c?><!D e><![CDATA[<&]]></b>", "a<!-- * & -->b<?c?><!D e><![CDATA[<&]]></b>")
	checkText(t, "<b\n c>", "<b\n c>")
	checkText(t, "*<b>*", "<em><b></em>")
	checkText(t, "[<b>](c)", `<a href="c"><b></a>`)
}

// TestOtherwiseWritten has each byte in each place in which HTML or URL says how it is written.
func TestOtherwiseWritten(t *testing.T) {
	for i := range 128 {
		c := string(rune(i))
		asHTML, asURL := escape.HTML(c), escape.URL(c)
		defs := []api.Def{{Label: "x", Dest: c, Title: c}}
		want := fmt.Sprintf("<p><a href=\"%s\" title=\"%s\">x</a><img src=\"%s\" alt=\"x\" title=\"%s\" /></p>\n", asURL, asHTML, asURL, asHTML)
		if got := Write([]api.Block{para("[x]![x]")}, defs); got != want {
			t.Errorf("Write of links to %q is %q, not %q", c, got, want)
		}
		checkBlocks(t, "<pre><code>"+asHTML+"</code></pre>\n", code("", c))
		if c != " " && c != "\t" {
			checkBlocks(t, "<pre><code class=\"language-"+asHTML+"\"></code></pre>\n", code(c, ""))
		}
		if c != "`" && c != "\n" && c != " " {
			checkBlocks(t, "<p><code>"+asHTML+"</code></p>\n", para("`"+c+"`"))
			checkBlocks(t, "<p><img src=\"\" alt=\""+asHTML+"\" /></p>\n", para("![`"+c+"`]()"))
		}
		number := fmt.Sprintf("&#%d;", i)
		if i > 0 {
			checkBlocks(t, "<p>"+asHTML+"<img src=\"\" alt=\""+asHTML+"\" /></p>\n", para(number+"!["+number+"]()"))
		}
	}
	check(t, "[a](</<b>\"&> '\"&<')", "<p>[a](&lt;/<b>&quot;&amp;&gt; '&quot;&amp;&lt;')</p>\n")
	check(t, "[a](/\"&[%20ä '\"&<>')", "<p><a href=\"/%22&amp;%5B%20%C3%A4\" title=\"&quot;&amp;&lt;&gt;\">a</a></p>\n")
}
