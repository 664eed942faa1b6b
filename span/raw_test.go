package span

import (
	"regexp"
	"strings"
	"testing"
)

func TestRawCases(t *testing.T) {
	cases := []struct {
		text string
		want int
	}{
		{"<!-- a -- b -->", 15},
		{"<!A b>", 6},
		{"<!-->", 5},
		{"", 0},
		{"<", 0},
		{"<!", 0},
		{"<!>", 0},
		{"<a b='c' d/>x", 12},
		{"</a >", 5},
		{"<a b=>", 0},
		{"< a>", 0},
		{"<!--->", 6},
		{"<!---->", 7},
		{"<!----->", 8},
		{"<!--> a -->", 5},
		{"<!---> a -->", 6},
		{"<!--->-->", 6},
		{"<!--", 0},
		{"<!---", 0},
		{"<!----", 0},
		{"<!-- a", 0},
		{"<!-- a --", 0},
		{"<!-- a ->", 0},
		{"<!-- a -- >", 0},
		{"<!-- a --!>", 0},
		{"<!-a-->", 0},
		{"<! -- a -->", 0},
		{"<!--a--->", 9},
		{"<!--a--> b -->", 8},
		{"<!--\n\n>-\x00\xff\n-->", 14},
		{"<!-- <!-- a --> -->", 15},
		{"<?a?>b", 5},
		{"<??>", 4},
		{"<?>", 0},
		{"<?>?>", 5},
		{"<?>a?>", 6},
		{"<???>", 5},
		{"<?a>", 0},
		{"<?a ? >", 0},
		{"<?a\n\n'?>'?>", 8},
		{"<?", 0},
		{"<?a?", 0},
		{"<!A>", 4},
		{"<!a>", 4},
		{"<!Z>", 4},
		{"<!A", 0},
		{"<!1>", 0},
		{"<! A>", 0},
		{"<!_A>", 0},
		{"<!\u00e4>", 0},
		{"<!A '>'>", 6},
		{"<!DOCTYPE\nhtml\n\n[<a>]>", 20},
		{"<![CDATA[a]]>", 13},
		{"<![CDATA[]]>", 12},
		{"<![CDATA[]]]>", 13},
		{"<![CDATA[>&<\n\n]]]]>]]>", 19},
		{"<![CDATA[a]]>b]]>", 13},
		{"<![CDATA[a]>", 0},
		{"<![CDATA[a]] >", 0},
		{"<![CDATA[a", 0},
		{"<![CDATA[]>", 0},
		{"<![CDATA]]>", 0},
		{"<![cdata[a]]>", 0},
		{"<![CDATa[a]]>", 0},
		{"<![ CDATA[a]]>", 0},
		{"<![a]]>", 0},
		{"<http://a>", 0},
		{"<a@b.c>", 0},
		{"a<!-- b -->", 0},
	}
	for _, c := range cases {
		if got := Raw(c.text); got != c.want {
			t.Errorf("Raw(%q) is %d, not %d", c.text, got, c.want)
		}
	}
}

func rawPattern() *regexp.Regexp {
	return regexp.MustCompile(`(?s)^(?:` + tagPattern() + `|<!-->|<!--->|<!--.*?-->|<\?.*?\?>|<![A-Za-z].*?>|<!\[CDATA\[.*?\]\]>)`)
}

func TestRawShortTexts(t *testing.T) {
	pattern := rawPattern()
	found := 0
	check := func(s string) {
		want := sizeBy(pattern, s)
		got := Raw(s)
		if got != want {
			t.Fatalf("Raw(%q) is %d, not %d", s, got, want)
		}
		if got == 0 {
			return
		}
		found++
		if s[0] != '<' || s[got-1] != '>' {
			t.Fatalf("Raw(%q) takes %q", s, s[:got])
		}
	}
	eachText([]string{"<", "!", "-", "--", ">", "?", "a", "/", "\n"}, 6, check)
	for _, first := range []string{"<!", "<!--", "<?", "<![CDATA[", "<![CDATA"} {
		eachText([]string{"-", ">", "?", "[", "]", "a", "A", "\n", "\xff"}, 5, func(s string) { check(first + s) })
	}
	if found == 0 {
		t.Error("no text has HTML")
	}
}

func TestRawEveryByte(t *testing.T) {
	pattern := rawPattern()
	frames := []string{"<~>", "<!~>", "<!~-->", "<!-~-->", "<!--~-->", "<!--~>", "<!---~>", "<!-- -~>", "<!-- --~>", "<?~?>", "<??~>", "<!A~>", "<!~A>", "<![CDATA~]]>", "<![CDATA[~]]>", "<![CDATA[]~>", "<![CDATA[]]~>"}
	for _, frame := range frames {
		eachByte(func(c string) {
			s := strings.Replace(frame, "~", c, 1)
			want := sizeBy(pattern, s)
			if got := Raw(s); got != want {
				t.Errorf("Raw(%q) is %d, not %d", s, got, want)
			}
		})
	}
}
