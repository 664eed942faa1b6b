package span

import (
	"strings"
	"testing"
)

// eachText calls f with every text of at most most pieces.
func eachText(pieces []string, most int, f func(string)) {
	f("")
	if most == 0 {
		return
	}
	for _, p := range pieces {
		eachText(pieces, most-1, func(s string) { f(p + s) })
	}
}

// eachByte calls f with every byte, as a text.
func eachByte(f func(s string)) {
	for i := range 256 {
		f(string([]byte{byte(i)}))
	}
}

// sizes are what all calls take of a text.
func sizes(s string) [4]int {
	_, code := Code(s)
	_, _, auto := Auto(s)
	return [4]int{code, Tag(s), Raw(s), auto}
}

// wholes are texts of which each takes all, and of which nothing is whole that is cut off.
func wholes() []string {
	return []string{
		"` a `", "``a`b``", "`a\nb`",
		"<a>", "<a/>", "<a  />", "<a b c/>", "<a b='c' d/>", "<a\nb\n=\n\"x\n>\n\">", "<a b=c/>", "<a\t_:.-\t=\tc\t>", "</a >", "</a-1\n>",
		"<!-->", "<!--->", "<!---->", "<!-- a -- b -->", "<!-- <a> ->-->", "<?a?>", "<?>?>", "<!A b>", "<![CDATA[a]]b]>]]>",
		"<http://a?b>", "<ab:>", "<a@b.c>", "<a+b@c-d.e.f>",
	}
}

// TestCutOff: what is cut off anywhere is nothing, for each of the calls.
func TestCutOff(t *testing.T) {
	for _, s := range wholes() {
		whole := false
		for _, n := range sizes(s) {
			whole = whole || n == len(s)
		}
		if !whole {
			t.Errorf("none takes all of %q: %v", s, sizes(s))
		}
		for i := range s {
			if got := sizes(s[:i]); got != [4]int{} {
				t.Errorf("of %q cut off: %v", s[:i], got)
			}
		}
	}
}

// TestBeginningAlone: what stands behind changes nothing; what stands ahead leaves nothing at the beginning.
func TestBeginningAlone(t *testing.T) {
	for _, s := range wholes() {
		want := sizes(s)
		for _, rest := range []string{">", " ", "x", "\n", "<a>", "-->", "?>", "]]>", "a`", "a``", "\x00\xff"} {
			if got := sizes(s + rest); got != want {
				t.Errorf("of %q behind %q: %v, not %v", rest, s, got, want)
			}
		}
		for _, first := range []string{" ", "\n", "\t", "a", "\\", "\x00", "\xff"} {
			if got := sizes(first + s); got != [4]int{} {
				t.Errorf("of %q behind %q: %v", s, first, got)
			}
		}
	}
}

// TestLong goes over texts that are far longer than a document's.
func TestLong(t *testing.T) {
	const size = 1 << 20
	many := func(s string) string { return strings.Repeat(s, size) }
	cases := []struct {
		text string
		want [4]int
	}{
		{many("`"), [4]int{}},
		{"`" + many("a``"), [4]int{}},
		{"`" + many("a``") + "`", [4]int{}},
		{"`" + many("a``") + "a`", [4]int{0: 3*size + 3}},
		{many("<"), [4]int{}},
		{"<a" + many(" b") + ">", [4]int{1: 2*size + 3, 2: 2*size + 3}},
		{"<a" + many(" b"), [4]int{}},
		{"<a" + many(" ") + ">", [4]int{1: size + 3, 2: size + 3}},
		{"<a b" + many(" "), [4]int{}},
		{"<a b" + many(" =c"), [4]int{}},
		{"<a" + many(" b =c") + ">", [4]int{1: 5*size + 3, 2: 5*size + 3}},
		{"<!--" + many("--"), [4]int{}},
		{"<!--" + many("--") + ">", [4]int{2: 2*size + 5}},
		{"<![CDATA[" + many("]") + "]]>", [4]int{2: size + 12}},
		{"<ab:" + many("c") + ">", [4]int{3: size + 5}},
		{"<" + many("a") + "@b>", [4]int{3: size + 4}},
		{"<a@" + many("b.") + "c>", [4]int{3: 2*size + 5}},
		{"<a@" + many("b.") + ">", [4]int{}},
	}
	for _, c := range cases {
		if got := sizes(c.text); got != c.want {
			t.Errorf("of %.20q and so on: %v, not %v", c.text, got, c.want)
		}
	}
}
