package span

import (
	"regexp"
	"strings"
	"testing"
)

// link is all that Auto tells.
type link struct {
	dest, text string
	size       int
}

func linkOf(s string) link {
	dest, text, size := Auto(s)
	return link{dest, text, size}
}

func TestAutoCases(t *testing.T) {
	cases := []struct {
		text string
		want link
	}{
		{"<http://a?b>", link{"http://a?b", "http://a?b", 12}},
		{"<a@b.c>", link{"mailto:a@b.c", "a@b.c", 7}},
		{"<ab:>", link{"ab:", "ab:", 5}},
		{"<a:b>", link{}},
		{"<a@b-.c>", link{}},
		{"", link{}},
		{"<", link{}},
		{"<>", link{}},
		{"<ab>", link{}},
		{"<:>", link{}},
		{"<:ab>", link{}},
		{"<a:>", link{}},
		{"<ab:", link{}},
		{"<ab:c", link{}},
		{"ab:c>", link{}},
		{"ab:c", link{}},
		{"<ab:c>d>", link{"ab:c", "ab:c", 6}},
		{"<AZ:C>", link{"AZ:C", "AZ:C", 6}},
		{"<a1:>", link{"a1:", "a1:", 5}},
		{"<a+:>", link{"a+:", "a+:", 5}},
		{"<a.-9:>", link{"a.-9:", "a.-9:", 7}},
		{"<1a:>", link{}},
		{"<+a:>", link{}},
		{"<.a:>", link{}},
		{"<-a:>", link{}},
		{"<a_:>", link{}},
		{"<a/:b>", link{}},
		{"<\u00e4b:c>", link{}},
		{"<a\u00e4:c>", link{}},
		{"<ab::>", link{"ab::", "ab::", 6}},
		{"<ab:c:d@e>", link{"ab:c:d@e", "ab:c:d@e", 10}},
		{"<ab:\u00e4\x80\xff>", link{"ab:\u00e4\x80\xff", "ab:\u00e4\x80\xff", 9}},
		{"<ab:\\*&amp;[x]`\"'>", link{"ab:\\*&amp;[x]`\"'", "ab:\\*&amp;[x]`\"'", 18}},
		{"<ab: c>", link{}},
		{"<ab:c d>", link{}},
		{"< ab:c>", link{}},
		{"<ab:c >", link{}},
		{"<ab :c>", link{}},
		{"<ab:c\nd>", link{}},
		{"<ab:\t>", link{}},
		{"<ab:\r>", link{}},
		{"<ab:\x00>", link{}},
		{"<ab:\x1f>", link{}},
		{"<ab:\x7f>", link{}},
		{"<ab:!~>", link{"ab:!~", "ab:!~", 7}},
		{"<ab:c<d>", link{}},
		{"<<ab:c>", link{}},
		{"<a@b>", link{"mailto:a@b", "a@b", 5}},
		{"<A9@Z0>", link{"mailto:A9@Z0", "A9@Z0", 7}},
		{"<9@0>", link{"mailto:9@0", "9@0", 5}},
		{"<.@b>", link{"mailto:.@b", ".@b", 5}},
		{"<-@b>", link{"mailto:-@b", "-@b", 5}},
		{"<.!#$%&'*+/=?^_{|}~-`@b>", link{"mailto:.!#$%&'*+/=?^_{|}~-`@b", ".!#$%&'*+/=?^_{|}~-`@b", 24}},
		{"<@b>", link{}},
		{"<a@>", link{}},
		{"<@>", link{}},
		{"<a@b", link{}},
		{"a@b>", link{}},
		{"<a@b@c>", link{}},
		{"<a@@b>", link{}},
		{"<a@b.>", link{}},
		{"<a@.b>", link{}},
		{"<a@b..c>", link{}},
		{"<a@.>", link{}},
		{"<a@b.c.d.e>", link{"mailto:a@b.c.d.e", "a@b.c.d.e", 11}},
		{"<a@-b>", link{}},
		{"<a@b->", link{}},
		{"<a@->", link{}},
		{"<a@--->", link{}},
		{"<a@b.-c>", link{}},
		{"<a@b.c->", link{}},
		{"<a@b-c.d--e>", link{"mailto:a@b-c.d--e", "a@b-c.d--e", 12}},
		{"<a@b_c>", link{}},
		{"<a@b+c>", link{}},
		{"<a@b c>", link{}},
		{"<a @b>", link{}},
		{"<a@ b>", link{}},
		{"< a@b>", link{}},
		{"<a@b >", link{}},
		{"<a\\+@b>", link{}},
		{"<a\"@b>", link{}},
		{"<a(@b>", link{}},
		{"<a,@b>", link{}},
		{"<a;@b>", link{}},
		{"<a:@b>", link{}},
		{"<a[@b>", link{}},
		{"<\u00e4@b>", link{}},
		{"<a@\u00e4>", link{}},
		{"<a@b\n>", link{}},
		{"<mailto:a@b>", link{"mailto:a@b", "mailto:a@b", 12}},
		{"<a href='b'>", link{}},
		{"</a>", link{}},
		{"x<ab:c>", link{}},
	}
	for _, c := range cases {
		if got := linkOf(c.text); got != c.want {
			t.Errorf("Auto(%q) is %+v, not %+v", c.text, got, c.want)
		}
	}
}

// TestAutoLengths goes over the ends of what schemes and parts may have.
func TestAutoLengths(t *testing.T) {
	for n := range 140 {
		long := strings.Repeat("a", n)
		checkAuto(t, long+":", "", n >= 2 && n <= 32)
		checkAuto(t, long+":b", "", n >= 2 && n <= 32)
		checkAuto(t, long+"@b", "mailto:", n >= 1)
		for _, frame := range []string{"b@~", "b@c.~", "b@~.c", "b@c.~.d"} {
			checkAuto(t, strings.Replace(frame, "~", long, 1), "mailto:", n >= 1 && n <= 63)
			checkAuto(t, strings.Replace(frame, "~", "a"+strings.Repeat("-", n)+"a", 1), "mailto:", n <= 61)
		}
	}
}

func checkAuto(t *testing.T, text, ahead string, is bool) {
	t.Helper()
	var want link
	if is {
		want = link{ahead + text, text, len(text) + 2}
	}
	if got := linkOf("<" + text + ">"); got != want {
		t.Errorf("Auto of %q is %+v, not %+v", text, got, want)
	}
}

// autoReader tells links by patterns.
type autoReader struct{ place, mail *regexp.Regexp }

func newAutoReader() autoReader {
	const part = `[a-zA-Z0-9](?:[a-zA-Z0-9-]{0,61}[a-zA-Z0-9])?`
	return autoReader{
		regexp.MustCompile(`^<([A-Za-z][A-Za-z0-9+.-]{1,31}:[^\x00-\x20\x7f<>]*)>`),
		regexp.MustCompile("^<([a-zA-Z0-9.!#$%&'*+/=?^_`{|}~-]+@" + part + `(?:\.` + part + `)*)>`),
	}
}

func (r autoReader) link(s string) link {
	if m := r.place.FindStringSubmatch(s); m != nil {
		return link{m[1], m[1], len(m[0])}
	}
	if m := r.mail.FindStringSubmatch(s); m != nil {
		return link{"mailto:" + m[1], m[1], len(m[0])}
	}
	return link{}
}

func TestAutoShortTexts(t *testing.T) {
	r := newAutoReader()
	found := 0
	check := func(s string) {
		want := r.link(s)
		if got := linkOf(s); got != want {
			t.Fatalf("Auto(%q) is %+v, not %+v", s, got, want)
		}
		if want.size > 0 {
			found++
		}
	}
	eachText([]string{"<", ">", "a", "b1", ":", "@", ".", "-", " "}, 5, check)
	eachText([]string{">", "a", "1", ":", "@", ".", "-", "+", "/", "\u00e4"}, 5, func(s string) { check("<" + s + ">") })
	if found == 0 {
		t.Error("no text has a link")
	}
}

func TestAutoEveryByte(t *testing.T) {
	r := newAutoReader()
	frames := []string{"~ab:c>", "<~b:c>", "<a~:c>", "<ab~c>", "<ab:~>", "<ab:c~>", "<ab:c~d>", "<ab:c~", "<~@b>", "<a~@b>", "<a~b>", "<a@~>", "<a@b~>", "<a@b~c>", "<a@~c>", "<a@b.~>", "<a@b.c~d>"}
	for _, frame := range frames {
		eachByte(func(c string) {
			s := strings.Replace(frame, "~", c, 1)
			if got, want := linkOf(s), r.link(s); got != want {
				t.Errorf("Auto(%q) is %+v, not %+v", s, got, want)
			}
		})
	}
}
