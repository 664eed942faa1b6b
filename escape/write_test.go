package escape

import (
	"regexp"
	"strings"
	"testing"
)

// eachText calls f with every text of at most most pieces.
func eachText(pieces []string, most int, f func(string)) {
	f("")
	if most == 0 {
		return
	}
	for _, p := range pieces {
		eachText(pieces, most-1, func(s string) { f(p + s) })
	}
}

func TestHTMLCases(t *testing.T) {
	cases := []struct{ text, want string }{
		{"", ""},
		{"a", "a"},
		{`<a b="&">`, "&lt;a b=&quot;&amp;&quot;&gt;"},
		{"<", "&lt;"},
		{">", "&gt;"},
		{"&", "&amp;"},
		{`"`, "&quot;"},
		{"'", "'"},
		{"&amp;&lt;", "&amp;amp;&amp;lt;"},
		{"<<>>", "&lt;&lt;&gt;&gt;"},
		{"\u00e4\u20ac<\U0001f600", "\u00e4\u20ac&lt;\U0001f600"},
		{"\x00\xff<\xc3", "\x00\xff&lt;\xc3"},
		{"a\tb\nc\r\\", "a\tb\nc\r\\"},
	}
	for _, c := range cases {
		if got := HTML(c.text); got != c.want {
			t.Errorf("HTML(%q) is %q, not %q", c.text, got, c.want)
		}
	}
}

func TestHTMLEveryByte(t *testing.T) {
	changed := map[byte]string{'&': "&amp;", '<': "&lt;", '>': "&gt;", '"': "&quot;"}
	for i := 0; i < 256; i++ {
		one := string([]byte{byte(i)})
		want := one
		if w, ok := changed[byte(i)]; ok {
			want = w
		}
		if got := HTML(one); got != want {
			t.Errorf("HTML(%q) is %q, not %q", one, got, want)
		}
		if got := HTML("x" + one + one + "y"); got != "x"+want+want+"y" {
			t.Errorf("HTML of %q within a text is %q", one, got)
		}
	}
}

func TestURLCases(t *testing.T) {
	cases := []struct{ text, want string }{
		{"", ""},
		{"/\u00e4?a=1&b=[x]", "/%C3%A4?a=1&amp;b=%5Bx%5D"},
		{"http://a.b/c%20d#e", "http://a.b/c%20d#e"},
		{"%", "%"},
		{"%C3%a4", "%C3%a4"},
		{"a b", "a%20b"},
		{`"<>\^{|}` + "`", "%22%3C%3E%5C%5E%7B%7C%7D%60"},
		{"-_.!~*'();/?:@=+$,#%", "-_.!~*'();/?:@=+$,#%"},
		{"\x00\x09\x0a\x0d\x7f\x80\xff", "%00%09%0A%0D%7F%80%FF"},
		{"&amp;", "&amp;amp;"},
		{"\u20ac", "%E2%82%AC"},
		{"\uff21\u212a", "%EF%BC%A1%E2%84%AA"},
	}
	for _, c := range cases {
		if got := URL(c.text); got != c.want {
			t.Errorf("URL(%q) is %q, not %q", c.text, got, c.want)
		}
	}
}

func TestURLEveryByte(t *testing.T) {
	const kept = "abcdefghijklmnopqrstuvwxyzABCDEFGHIJKLMNOPQRSTUVWXYZ0123456789-_.!~*'();/?:@=+$,#%"
	const upper = "0123456789ABCDEF"
	for i := 0; i < 256; i++ {
		one := string([]byte{byte(i)})
		want := "%" + upper[i/16:i/16+1] + upper[i%16:i%16+1]
		if strings.Contains(kept, one) {
			want = one
		}
		if one == "&" {
			want = "&amp;"
		}
		if got := URL(one); got != want {
			t.Errorf("URL(%q) is %q, not %q", one, got, want)
		}
		if got := URL("x" + one + one + "y"); got != "x"+want+want+"y" {
			t.Errorf("URL of %q within a text is %q", one, got)
		}
	}
}

// What follows, of B1: what HTML and URL tell has no other bytes than are named.
func TestWrittenHasNamedBytesAlone(t *testing.T) {
	named := regexp.MustCompile(`^[-a-zA-Z0-9_.!~*'();/?:@=+$,#%&]*$`)
	pieces := []string{"a", "&", "<", ">", "\"", "\\", ";", "%", " ", "[", "\u00e4", "\xff", "amp;", "\x00"}
	eachText(pieces, 4, func(s string) {
		if got := HTML(s); strings.ContainsAny(got, "<>\"") {
			t.Fatalf("HTML(%q) is %q", s, got)
		}
		if got := URL(s); !named.MatchString(got) {
			t.Fatalf("URL(%q) is %q", s, got)
		}
	})
}
