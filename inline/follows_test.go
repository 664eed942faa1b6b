package inline

import (
	"fmt"
	"strings"
	"testing"

	"scriptorium/api"
)

// linkInLink tells whether a link stands in a link, also in an image's text.
func linkInLink(l []api.Inline, within bool) bool {
	for _, x := range l {
		if x.Kind == api.Link && within || linkInLink(x.Kids, within || x.Kind == api.Link) {
			return true
		}
	}
	return false
}

// TestNoLinkInLink goes over all short texts of links, images and emphasis. (None of them has what Auto tells.)
func TestNoLinkInLink(t *testing.T) {
	links := 0
	for _, pieces := range [][]string{
		{"[", "]", "](b)", "![", "[x]", "*"},
		{"[a](b)", "[", "]", "](b)", "][x]", "![", "[]"},
		{"[x]", "[a](b)", "**", "[", "](c)", "_"},
	} {
		eachText(pieces, 6, func(s string) {
			l := Parse(s, known())
			if linkInLink(l, false) {
				t.Fatalf("Parse(%q) is %s", s, form(l))
			}
			if linkInLink(l, true) {
				links++
			}
		})
	}
	if links < 10000 {
		t.Errorf("only %d texts had a link", links)
	}
}

// meaningful are the bytes without which a text means nothing.
const meaningful = "\\&*_[]<`\n"

// TestPlainTexts: a text without these bytes is one Text.
func TestPlainTexts(t *testing.T) {
	var bytes []byte
	var pieces []string
	for i := range 256 {
		if strings.IndexByte(meaningful, byte(i)) < 0 {
			bytes = append(bytes, byte(i))
			pieces = append(pieces, string([]byte{byte(i)}))
		}
	}
	checkText(t, string(bytes))
	eachText(pieces, 2, func(s string) {
		if s != "" {
			checkText(t, s)
		}
	})
	eachText([]string{"!", "(", ")", ">", "  ", "x", "\r", "amp;", "\"", "http://a"}, 5, func(s string) {
		if s != "" {
			checkText(t, s)
		}
	})
}

// TestOneMeaningfulByte: one of these bytes alone means nothing either, but a line feed.
func TestOneMeaningfulByte(t *testing.T) {
	for _, c := range strings.TrimSuffix(meaningful, "\n") {
		for _, s := range []string{"%c", "a%cb", " %c ", "%c ", " %c", "a %cb", "a%c b"} {
			checkText(t, fmt.Sprintf(s, c))
		}
	}
	check(t, "a\nb", `"a" soft "b"`)
}

// TestManyParts: texts of many parts, far beyond the limit of a text, are read to their end.
func TestManyParts(t *testing.T) {
	const n = 4000
	for _, s := range []string{"[", "![", "]", "[a](", "[a](b", "[a](<", "[a](b \"", "[a](b 'c", "<", "<a ", "<!--", "<?", "&", "&#", "\\", "!", "*a_ ", "_a*.", "a** b*", "[*", "*a ", "a* ", "**x", "`a``", "[a][", "[x", "](", "* ", "[[]"} {
		Parse(many(s, n), known())
	}
	checkText(t, many("[", n))
	checkText(t, many("![", n))
	checkText(t, many("*a ", n))
	checkText(t, many("a* ", n))
	checkText(t, many("[a](", n))
	check(t, many("[", n)+"x"+many("]", n), fmt.Sprintf(`%q link</x|t>("x") %q`, many("[", n-1), many("]", n-1)))
	check(t, many("*", 2*n)+"a"+many("*", 2*n), many("strong(", n)+`"a"`+many(")", n))
	check(t, many("![", n)+"a"+many("](b)", n), many("image<b|>(", n)+`"a"`+many(")", n))
	check(t, many("*a **b ", n)+many("c** d* ", n), manyNested(n))
	check(t, many("[a](b)", n), strings.TrimSuffix(many(`link<b|>("a") `, n), " "))
	check(t, many("[", n)+many("[a](b)", n)+many("](c)", n), fmt.Sprintf("%q ", many("[", n))+many(`link<b|>("a") `, n)+fmt.Sprintf("%q", many("](c)", n)))
}

// manyNested is emphasis in emphasis, so many deep.
func manyNested(n int) string {
	return many(`emph("a " strong("b " `, n-1) + `emph("a " strong("b c") " d")` + many(` " c") " d")`, n-1) + ` " "`
}

// TestAnyBytes: whatever the bytes are, a text is read to its end.
func TestAnyBytes(t *testing.T) {
	for i := range 256 {
		for j := range 256 {
			c := string([]byte{byte(i), byte(j)})
			checkWords(t, c)
			checkWords(t, "*a"+c+"b*"+c+"[x"+c+"]")
		}
	}
}
