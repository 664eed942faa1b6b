package inline

import (
	"fmt"
	"strings"
	"testing"
)

const marks = "!\"#$%&'()*+,-./:;<=>?@[\\]^_`{|}~"

// TestBackslashLineFeed is the first row.
func TestBackslashLineFeed(t *testing.T) {
	check(t, "a\\\nb", `"a" hard "b"`)
	check(t, "a\\\n   b", `"a" hard "b"`)
	check(t, "a  \\\nb", `"a  " hard "b"`)
	check(t, "a\\\n", `"a" hard`)
	check(t, "\\\n", `hard`)
	check(t, "\\\n  ", `hard`)
	check(t, "\\\n\\\n", `hard hard`)
	check(t, "a\\\n  \nb", `"a" hard soft "b"`)
	check(t, "a\\\n\tb", `"a" hard "\tb"`)
	check(t, "a\\\r\nb", `"a\\\r" soft "b"`)
	check(t, "a\\\\\nb", `"a\\" soft "b"`)
	check(t, "a\\\\\\\nb", `"a\\" hard "b"`)
	check(t, "*a\\\nb*", `emph("a" hard "b")`)
}

// TestBackslashMark is the second row: a mark behind a backslash means nothing.
func TestBackslashMark(t *testing.T) {
	for _, c := range []byte(marks) {
		check(t, "\\"+string(c), fmt.Sprintf("%q", string(c)))
		check(t, "a\\"+string(c)+"b", fmt.Sprintf("%q", "a"+string(c)+"b"))
	}
	check(t, `\*a*`, `"*a*"`)
	check(t, `*a\*`, `"*a*"`)
	check(t, `\**a*`, `"*" emph("a")`)
	check(t, `\_a_`, `"_a_"`)
	check(t, `\[x]`, `"[x]"`)
	check(t, `[x\]`, `"[x]"`)
	check(t, `\![x]`, `"!" link</x|t>("x")`)
	check(t, `!\[x]`, `"![x]"`)
	check(t, "\\`a`", "\"`a`\"")
	check(t, "\\``a`", "\"`\" span\"a\"")
	check(t, `\<b>`, `"<b>"`)
	check(t, `\<a@b>`, `"<a@b>"`)
	check(t, `\&amp;`, `"&amp;"`)
	check(t, `\\*a*`, `"\\" emph("a")`)
	check(t, `\\\*a*`, `"\\*a*"`)
}

// TestBackslashElse: ahead of what is neither a line feed nor a mark, and at the end, a backslash is text.
func TestBackslashElse(t *testing.T) {
	checkText(t, `\`)
	checkText(t, `a\`)
	for i := range 256 {
		c := byte(i)
		if c == '\n' || strings.IndexByte(marks, c) >= 0 {
			continue
		}
		checkText(t, "\\"+string([]byte{c}))
		checkText(t, "a\\"+string([]byte{c})+"b")
	}
	check(t, "\\ \nb", `"\\" soft "b"`)
	check(t, "\\  \nb", `"\\" hard "b"`)
	checkText(t, "\\\u00a1\\\u2010")
}

// TestBreaks is the third row: with none, one, two and more blanks, on either side.
func TestBreaks(t *testing.T) {
	for ahead := range 6 {
		kind := "hard"
		if ahead < 2 {
			kind = "soft"
		}
		for behind := range 4 {
			feed := many(" ", ahead) + "\n" + many(" ", behind)
			check(t, "a"+feed+"b", `"a" `+kind+` "b"`)
			check(t, "a"+feed, `"a" `+kind)
			check(t, feed+"b", kind+` "b"`)
			check(t, feed, kind)
			check(t, "*a"+feed+"b*", `emph("a" `+kind+` "b")`)
			check(t, "[a"+feed+"b](c)", `link<c|>("a" `+kind+` "b")`)
		}
	}
	check(t, "a\n\nb", `"a" soft soft "b"`)
	check(t, "a\n  \nb", `"a" soft soft "b"`)
	check(t, "a  \n  \n  b", `"a" hard soft "b"`)
	check(t, "`a`  \n<b>\n*c*", "span\"a\" hard raw\"<b>\" soft emph(\"c\")")
}

// TestBreaksElse: what is no blank makes no break and belongs to none; blanks without a line feed are text.
func TestBreaksElse(t *testing.T) {
	checkText(t, " ")
	checkText(t, "  a  b  ")
	checkText(t, "a\rb\fc\vd\u0085e\u2028f\u2029g")
	check(t, "a\t\nb", `"a\t" soft "b"`)
	check(t, "a\t\t\t\nb", `"a\t\t\t" soft "b"`)
	check(t, "a\t  \nb", `"a\t" hard "b"`)
	check(t, "a  \t\nb", `"a  \t" soft "b"`)
	check(t, "a  \t \nb", `"a  \t" soft "b"`)
	check(t, "a\n\tb", `"a" soft "\tb"`)
	check(t, "a\n \t b", `"a" soft "\t b"`)
	check(t, "a\r\nb", `"a\r" soft "b"`)
	check(t, "a  \r\nb", `"a  \r" soft "b"`)
	check(t, "a\u00a0\u00a0\n\u00a0b", `"a\u00a0\u00a0" soft "\u00a0b"`)
	check(t, "a&#32;&#32;\nb", `"a  " soft "b"`)
	check(t, "a  &#10;b", `"a  \nb"`)
}

// TestCode is the fourth row, and the fifth: a run without code is text as a whole.
func TestCode(t *testing.T) {
	check(t, "`a`", "span\"a\"")
	check(t, "a`b`c", "\"a\" span\"b\" \"c\"")
	check(t, "`*a* [x] <b> &amp; \\*`", "span\"*a* [x] <b> &amp; \\\\*\"")
	check(t, "``a`b``", "span\"a`b\"")
	check(t, "` a `", "span\"a\"")
	check(t, "` `", "span\" \"")
	check(t, "`a  \nb`", "span\"a   b\"")
	check(t, "`a\\`b`", "span\"a\\\\\" \"b`\"")
	check(t, "*a `b*`", "\"*a \" span\"b*\"")
	check(t, "[a `](b)`", "\"[a \" span\"](b)\"")
	check(t, "[`a`](b)", "link<b|>(span\"a\")")
	check(t, "<b`c>`", "\"<b\" span\"c>\"")
	checkText(t, "`")
	checkText(t, "``")
	checkText(t, "`a")
	checkText(t, "a`")
	checkText(t, "```a``")
	checkText(t, "``a`")
	checkText(t, "`a``")
	check(t, "```a``b``", "\"```a\" span\"b\"")
	check(t, "``*a*", "\"``\" emph(\"a\")")
	check(t, "```*a*`", "\"```\" emph(\"a\") \"`\"")
	check(t, "`a``b```c`", "span\"a``b```c\"")
}

// TestAuto is the sixth row, ahead of Raw; a link's text there is as it stands.
func TestAuto(t *testing.T) {
	check(t, "<http://a?b=c>", `link<http://a?b=c|>("http://a?b=c")`)
	check(t, "<a@b.c>", `link<mailto:a@b.c|>("a@b.c")`)
	check(t, "<ab:>", `link<ab:|>("ab:")`)
	check(t, `<ab:*c*[x]&amp;\*"d">`, `link<ab:*c*[x]&amp;\*"d"|>("ab:*c*[x]&amp;\\*\"d\"")`)
	check(t, "<ab:`c>`", "link<ab:`c|>(\"ab:`c\") \"`\"")
	check(t, "*<ab:*>", `"*" link<ab:*|>("ab:*")`)
	check(t, "<a:b>", `"<a:b>"`)
	check(t, "<ab:c d>", `"<ab:c d>"`)
	check(t, "<ab:*c* d>", `"<ab:" emph("c") " d>"`)
	check(t, "[a<ab:](b)>", `"[a" link<ab:](b)|>("ab:](b)")`)
}

// TestRaw is the seventh row.
func TestRaw(t *testing.T) {
	for _, s := range []string{"<b>", "</b>", "<b/>", "<b c='*d*' e=\"`\" f>", "<!-- *a* -->", "<!-->", "<?a *b*?>", "<!A *b*>", "<![CDATA[*a*]]>", "<b\nc>", "<b c='  \n'>"} {
		check(t, s, fmt.Sprintf("raw%q", s))
		check(t, "a"+s+"\\", fmt.Sprintf("\"a\" raw%q \"\\\\\"", s))
		check(t, "*a "+s+"*", fmt.Sprintf("emph(\"a \" raw%q)", s))
	}
	check(t, "[a<b c='](d)'>", `"[a" raw"<b c='](d)'>"`)
	check(t, "*<b c='*'>", `"*" raw"<b c='*'>"`)
	for _, s := range []string{"<", "<b", "< b>", "<>", "<!--a", "<1>", "a < b > c", "</ b>"} {
		checkText(t, s)
	}
	check(t, "<b *c*>", `"<b " emph("c") ">"`)
	check(t, "<<b>", `"<" raw"<b>"`)
}

// TestReference is the eighth row: what a reference stands for means nothing.
func TestReference(t *testing.T) {
	check(t, "&amp;", `"&"`)
	check(t, "a&auml;b&#35;&#x22;&nvlt;", "\"aäb#\\\"<\u20d2\"")
	check(t, "&#0;&#xD800;", "\"\ufffd\ufffd\"")
	check(t, "&#42;a&#42;", `"*a*"`)
	check(t, "*a&#42;", `"*a*"`)
	check(t, "&#91;x&#93;", `"[x]"`)
	check(t, "[x&#93;", `"[x]"`)
	check(t, "&#96;a&#96;", "\"`a`\"")
	check(t, "&lt;b>", `"<b>"`)
	check(t, "&#92;*a*", `"\\" emph("a")`)
	check(t, "&amp;amp;", `"&amp;"`)
	check(t, "&&amp;", `"&&"`)
	for _, s := range []string{"&", "&amp", "&;", "&x;", "& amp;", "&#;", "&#x;", "&#12345678;", "&#xg;", "&AMP;"} {
		checkText(t, s)
		check(t, s+"*a*", fmt.Sprintf("%q emph(\"a\")", s))
	}
}

// TestOpenersAreText: brackets without what makes them a link, and marks of images without a bracket.
func TestOpenersAreText(t *testing.T) {
	for _, s := range []string{"!", "!a", "!!", "[", "![", "!![", "[[", "]", "]]", "][", "!]", "]!", "a[b", "a]b", "[a]", "![a]", "[[a]]", "! [a]", "]("} {
		checkText(t, s)
	}
	check(t, "!![x]", `"!" image</x|t>("x")`)
	check(t, "! [x]", `"! " link</x|t>("x")`)
	check(t, "!*a*", `"!" emph("a")`)
}

// TestElse is the last row: each byte that begins nothing is text, be it a part of a character or of none.
func TestElse(t *testing.T) {
	for i := range 256 {
		s := string([]byte{byte(i)})
		if s == "\n" {
			continue
		}
		checkText(t, s)
		checkText(t, "a"+s)
		checkText(t, s+"a")
	}
	checkText(t, "äöü€😀\u3000\ufffd\x00\xff\xc3\xe2\x82")
	check(t, "\xc3*\xa4*", "\"\\xc3\" emph(\"\\xa4\")")
}
