package span

import (
	"regexp"
	"strings"
	"testing"
)

func TestTagCases(t *testing.T) {
	cases := []struct {
		text string
		want int
	}{
		{"<a b='c' d/>x", 12},
		{"</a >", 5},
		{"<a b=>", 0},
		{"< a>", 0},
		{"", 0},
		{"<", 0},
		{"<>", 0},
		{"</", 0},
		{"</>", 0},
		{"a>", 0},
		{"<a>", 3},
		{"<A>", 3},
		{"<Zz9-->", 7},
		{"<a-b1>", 6},
		{"<1a>", 0},
		{"<-a>", 0},
		{"<_a>", 0},
		{"<a_b>", 0},
		{"<a.b>", 0},
		{"<a:b>", 0},
		{"<\u00e4>", 0},
		{"<a\u00e4>", 0},
		{"<a>>", 3},
		{"<a><b>", 3},
		{"<a<b>", 0},
		{"<a/>", 4},
		{"<a />", 5},
		{"<a\n/>", 5},
		{"<a/ >", 0},
		{"<a / >", 0},
		{"<a//>", 0},
		{"<a/b>", 0},
		{"<a /b>", 0},
		{"<a >", 4},
		{"<a \t\n \t>", 8},
		{"<a\n>", 4},
		{"<a\n\n>", 0},
		{"<a \n \n >", 0},
		{"<a\r>", 0},
		{"<a\v>", 0},
		{"<a\f>", 0},
		{"<a\x00>", 0},
		{"<a b>", 5},
		{"<a\tb>", 5},
		{"<a\nb>", 5},
		{"<a \n b>", 7},
		{"<a\n\nb>", 0},
		{"<a \n \nb>", 0},
		{"<a\nb\nc\n>", 8},
		{"<a b \n c\n d>", 12},
		{"<a b\n\n>", 0},
		{"<a b\n\nc>", 0},
		{"<a b/>", 6},
		{"<a b />", 7},
		{"<a _b :c>", 9},
		{"<a _:.-9Z>", 10},
		{"<a 1>", 0},
		{"<a -b>", 0},
		{"<a .b>", 0},
		{"<a \u00e4>", 0},
		{"<a b\u00e4>", 0},
		{"<a *b>", 0},
		{"<a =c>", 0},
		{"<a b=c>", 7},
		{"<a b =c>", 8},
		{"<a b= c>", 8},
		{"<a b = c>", 9},
		{"<a\nb\n=\n\"x\">", 11},
		{"<a b\t \n \t=\t \n \tc>", 17},
		{"<a b\n\n=c>", 0},
		{"<a b=\n\nc>", 0},
		{"<a b \n = \n c \n d>", 17},
		{"<a b=c/>", 8},
		{"<a b=/>", 7},
		{"<a b=c />", 9},
		{"<a b=c//>", 9},
		{"<a b=c/d>", 9},
		{"<a b= >", 0},
		{"<a b = >", 0},
		{"<a b==c>", 0},
		{"<a b=c=d>", 0},
		{"<a b=c d=e>", 11},
		{"<a b c=d e>", 11},
		{"<a b=c\"d\">", 0},
		{"<a b=c'>", 0},
		{"<a b=c`>", 0},
		{"<a b=c<d>", 0},
		{"<a b=&#\\\u00e4\x00\xff\r>", 14},
		{"<a b=''>", 8},
		{"<a b=\"\">", 8},
		{"<a b='\"'>", 9},
		{"<a b=\"'\">", 9},
		{"<a b='>'>", 9},
		{"<a b='\n\n<`='>", 13},
		{"<a b=\"\n\n\n\">", 11},
		{"<a b='\\''>", 0},
		{"<a b='c>", 0},
		{"<a b=\"c>", 0},
		{"<a b='c\">", 0},
		{"<a b='c' d='e>", 0},
		{"<a b='c'/>", 10},
		{"<a b='c'd>", 0},
		{"<a b='c'd='e'>", 0},
		{"<a b='c'\nd='e'>", 15},
		{"<a b='c'='d'>", 0},
		{"<a b='c' ='d'>", 0},
		{"</a>", 4},
		{"</a-1>", 6},
		{"</a\n>", 5},
		{"</a \t\n >", 8},
		{"</a\n\n>", 0},
		{"</ a>", 0},
		{"< /a>", 0},
		{"</a/>", 0},
		{"</a />", 0},
		{"</a b>", 0},
		{"</a b='c'>", 0},
		{"</1>", 0},
		{"</-a>", 0},
		{"<//a>", 0},
		{"<!-- a -->", 0},
		{"<?a?>", 0},
		{"<!A>", 0},
		{"<ab:c>", 0},
	}
	for _, c := range cases {
		if got := Tag(c.text); got != c.want {
			t.Errorf("Tag(%q) is %d, not %d", c.text, got, c.want)
		}
		if got := Raw(c.text); strings.HasPrefix(c.text, "<a") && got != c.want {
			t.Errorf("Raw(%q) is %d, not %d", c.text, got, c.want)
		}
	}
}

// tagPattern is D2, piece by piece, as a pattern.
func tagPattern() string {
	const (
		gap       = `[ \t]*\n?[ \t]*`
		someGap   = `(?:[ \t]+\n?[ \t]*|\n[ \t]*)`
		name      = `[A-Za-z][A-Za-z0-9-]*`
		value     = "(?:[^\\t\\n \"'=<>`]+|'[^']*'|\"[^\"]*\")"
		attribute = someGap + `[A-Za-z_:][A-Za-z0-9_.:-]*(?:` + gap + `=` + gap + value + `)?`
	)
	return `<` + name + `(?:` + attribute + `)*` + gap + `/?>|</` + name + gap + `>`
}

// sizeBy is how many bytes at the beginning a pattern takes.
func sizeBy(pattern *regexp.Regexp, s string) int {
	return len(pattern.FindString(s))
}

func TestTagShortTexts(t *testing.T) {
	pattern := regexp.MustCompile(`^(?:` + tagPattern() + `)`)
	found := 0
	check := func(s string) {
		want := sizeBy(pattern, s)
		if got := Tag(s); got != want {
			t.Fatalf("Tag(%q) is %d, not %d", s, got, want)
		}
		if want > 0 {
			found++
		}
	}
	eachText([]string{"<", ">", "/", "a", "-", "1", " ", "\n"}, 5, check)
	eachText([]string{" b", " ", "\t", "\n", "=", "'", "\"", "/", ">", "c", "-", ":"}, 5, func(s string) { check("<a" + s) })
	eachText([]string{"=", " ", "\n", "'", "c", "/", ">"}, 6, func(s string) { check("<a b" + s) })
	if found == 0 {
		t.Error("no text has a tag")
	}
}

// TestTagEveryByte puts each byte at each place where some may stand and others not.
func TestTagEveryByte(t *testing.T) {
	pattern := regexp.MustCompile(`^(?:` + tagPattern() + `)`)
	frames := []string{"<?>", "<a?>", "<a?b>", "<a ?>", "<a b?>", "<a b?c>", "<a b?=c>", "<a b=?>", "<a b=c?>", "<a b=c?d>", "<a b='?'>", "<a b=\"?\">", "<a b=c/?>", "<a b='c'?>", "<a b='c'?d>", "<a/?>", "</?>", "</a?>"}
	for _, frame := range frames {
		eachByte(func(c string) {
			s := strings.Replace(frame, "?", c, 1)
			want := sizeBy(pattern, s)
			if got := Tag(s); got != want {
				t.Errorf("Tag(%q) is %d, not %d", s, got, want)
			}
		})
	}
}
