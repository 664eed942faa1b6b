package inline

import (
	"fmt"
	"testing"

	"scriptorium/api"
)

// checkBoth holds what follows a link's opener, and an image's, against the part that it is, and what stands behind that.
func checkBoth(t *testing.T, behind, dest, title, kids, rest string) {
	t.Helper()
	for _, mark := range []struct{ text, kind string }{{"[", "link"}, {"![", "image"}} {
		check(t, mark.text+behind, mark.kind+"<"+dest+"|"+title+">("+kids+")"+rest)
	}
}

// TestPlace is a closer's first way, without a title.
func TestPlace(t *testing.T) {
	for _, c := range []struct{ place, dest string }{
		{"(b)", "b"}, {"(/b?c=d#e)", "/b?c=d#e"}, {"()", ""}, {"(<>)", ""}, {"(<b>)", "b"}, {"(<b c>)", "b c"}, {"(<b)c>)", "b)c"},
		{"( b )", "b"}, {"(\t\n b \n\t)", "b"}, {"( )", ""}, {"(\n)", ""}, {"( \n\t)", ""}, {"( <> )", ""}, {"(\n<b>\n)", "b"},
		{"(b(c)d)", "b(c)d"}, {"(b\\)c)", "b)c"}, {"(b\\(c)", "b(c"}, {"(&auml;\\*)", "ä*"}, {"(b\"c\")", "b\"c\""}, {"(\"c\")", "\"c\""}, {"( 'c')", "'c'"},
		{"(*b*)", "*b*"}, {"([b])", "[b]"}, {"(]b)", "]b"}, {"(`b)", "`b"}, {"(b<c>)", "b<c>"},
	} {
		checkBoth(t, "a]"+c.place, c.dest, "", `"a"`, "")
		checkBoth(t, "a]"+c.place+"(d)", c.dest, "", `"a"`, ` "(d)"`)
	}
	deep := many("(", 32) + many(")", 32)
	checkBoth(t, "a]("+deep+")", deep, "", `"a"`, "")
	checkText(t, "[a](("+deep+"))")
	checkBoth(t, "](b)", "b", "", "", "")
	checkBoth(t, "]()", "", "", "", "")
	checkBoth(t, "[a]](b)", "b", "", `"[a]"`, "")
	checkBoth(t, "a\\]](b)", "b", "", `"a]"`, "")
}

// TestPlaceTwoGaps: where nothing tells where the link leads, two gaps stand side by side, each with a line feed of its own.
func TestPlaceTwoGaps(t *testing.T) {
	checkBoth(t, "a](\n\n)", "", "", `"a"`, "")
	checkBoth(t, "a]( \n \n )", "", "", `"a"`, "")
	check(t, "[a](\n\n\n)", `"[a](" soft soft soft ")"`)
	check(t, "[a](b\n\n)", `"[a](b" soft soft ")"`)
	check(t, "[a](\n\nb)", `"[a](" soft soft "b)"`)
	check(t, "[a](b\n\n'c')", `"[a](b" soft soft "'c')"`)
	check(t, "[a](b 'c'\n\n)", `"[a](b 'c'" soft soft ")"`)
}

// TestPlaceTitle is the same with a title, of each kind, and empty ones.
func TestPlaceTitle(t *testing.T) {
	for _, c := range []struct{ title, want string }{
		{`"c"`, "c"}, {`'c'`, "c"}, {`(c)`, "c"}, {`"c\"d"`, `c"d`}, {`'c\'d'`, "c'd"}, {`(c\)d)`, "c)d"}, {`""`, ""}, {`''`, ""}, {`()`, ""}, {`"&auml;*)'"`, "ä*)'"}, {"'c\nd'", "c\nd"}, {`"c)d"`, "c)d"},
	} {
		for _, gap := range []string{" ", "\t", "\n", " \n\t"} {
			checkBoth(t, "a](b"+gap+c.title+")", "b", c.want, `"a"`, "")
			checkBoth(t, "a]("+gap+"<b>"+gap+c.title+gap+")", "b", c.want, `"a"`, "")
			checkBoth(t, "a](<>"+gap+c.title+")d", "", c.want, `"a"`, ` "d"`)
		}
		if c.want == "c" {
			checkText(t, "[a](<1>"+c.title+")")
		}
	}
}

// TestNoPlace: what is none leaves the brackets text.
func TestNoPlace(t *testing.T) {
	for _, s := range []string{
		"[a](b", "[a](", "[a](<b)", "[a](<b", "[a](b c)", "[a](b \"c)", "[a](b \"c\"", "[a](b \"c\" d)", "[a](b \"c\"\"d\")", "[a](b \"c\"d)", "[a](<1>c)", "[a](<>c)",
		"[a](b(c)", "[a] (b)", "[a](b \u00a0\"c\")", "[a](\u00a0 b)", "[a](b\x7fc)", "[a](b\rc)", "[a](\r)", "[a](b\r)", "[a](b\f)", "[a]{b)", "a](b)", "(b)",
	} {
		checkText(t, s)
		checkText(t, "!"+s)
	}
	check(t, "[a]\\(b)", `"[a](b)"`)
	check(t, "[a](\\)", `"[a]()"`)
	check(t, "[a](<b\nc>)", `"[a](" raw"<b\nc>" ")"`)
	check(t, "[a](b 'c\n\nd')", `"[a](b 'c" soft soft "d')"`)
	check(t, "[a]\n(b)", `"[a]" soft "(b)"`)
	check(t, "[a](*b* c)", `"[a](" emph("b") " c)"`)
}

// TestLabel is the second way: what a label behind the closer says.
func TestLabel(t *testing.T) {
	for _, c := range []struct{ label, want string }{
		{"x", "</x|t>"}, {"X", "</x|t>"}, {" x ", "</x|t>"}, {"\tX\n", "</x|t>"}, {"y z", "</yz|>"}, {"Y \n Z", "</yz|>"}, {"*e*", "</e|>"}, {"*E*", "</e|>"},
	} {
		check(t, "[a]["+c.label+"]", "link"+c.want+`("a")`)
		check(t, "![a]["+c.label+"]b", "image"+c.want+`("a") "b"`)
		check(t, "[]["+c.label+"]", "link"+c.want+`()`)
		check(t, "[*a* `b`]["+c.label+"]", "link"+c.want+"(emph(\"a\") \" \" span\"b\")")
	}
	check(t, "[y][x](z)", `link</x|t>("y") "(z)"`)
	check(t, "[y][x][]", `link</x|t>("y") "[]"`)
	check(t, "[y] [x]", `"[y] " link</x|t>("x")`)
	check(t, "[y]\n[x]", `"[y]" soft link</x|t>("x")`)
	check(t, "[a][y\\ z]", `"[a][y\\ z]"`)
	checkWith(t, []api.Def{{Label: "a\\]b", Dest: "c"}}, "[d][A\\]B]", `link<c|>("d")`)
}

// TestLabelWithoutDefinition: it keeps the brackets ahead of it from being a link, also where these are defined.
func TestLabelWithoutDefinition(t *testing.T) {
	checkText(t, "[x][a]")
	checkText(t, "![x][a]")
	checkText(t, "[a][b]")
	check(t, "[x][a][x]", `"[x]" link</x|t>("a")`)
	check(t, "[x][a](b)", `"[x]" link<b|>("a")`)
	check(t, "[x][a][]", `"[x][a][]"`)
	check(t, "[a][x][b]", `link</x|t>("a") "[b]"`)
	check(t, "[x][*a*]", `"[x][" emph("a") "]"`)
	check(t, "[x](a)[b]", `link<a|>("x") "[b]"`)
	checkText(t, "[x]["+many("a", 999)+"]")
}

// TestNoLabelBehind: what is no label behind a closer does not count, and the brackets' own bytes do.
func TestNoLabelBehind(t *testing.T) {
	for _, s := range []string{"[ ]", "[\u00a0]", "[a", "[", "[" + many("a", 1000) + "]", "[[a]", "[a\\]", "(", "(b c)", "(b", " []", "a", "]", ":", "\\a", "{}"} {
		l := Parse("[x]"+s, known())
		if len(l) < 2 || formOne(l[0]) != `link</x|t>("x")` {
			t.Errorf("Parse(%q) is %s", "[x]"+s, form(l))
		}
	}
	check(t, "[x][ ]", `link</x|t>("x") "[ ]"`)
	check(t, "[x]\\[]", `link</x|t>("x") "[]"`)
	check(t, "[x](b c)", `link</x|t>("x") "(b c)"`)
	check(t, "[x][\n]", `link</x|t>("x") "[" soft "]"`)
}

// TestOwnLabel is the third way: the bytes between the brackets are the label, with '[]' behind them, or nothing.
func TestOwnLabel(t *testing.T) {
	for _, behind := range []string{"", "[]"} {
		check(t, "[x]"+behind, `link</x|t>("x")`)
		check(t, "![x]"+behind, `image</x|t>("x")`)
		check(t, "[X]"+behind+"a", `link</x|t>("X") "a"`)
		check(t, "[ x\t]"+behind, `link</x|t>(" x\t")`)
		check(t, "[y  \nZ]"+behind, `link</yz|>("y" hard "Z")`)
		check(t, "![*E*]"+behind, `image</e|>(emph("E"))`)
		check(t, "[x]"+behind+"[]", map[string]string{"": `link</x|t>("x")`, "[]": `link</x|t>("x") "[]"`}[behind])
		checkText(t, "[a]"+behind)
		checkText(t, "![a]"+behind)
		checkText(t, "[]"+behind)
		checkText(t, "[ ]"+behind)
		checkText(t, "x]"+behind)
	}
	check(t, "[x][] []", `link</x|t>("x") " []"`)
	check(t, "[x]: b", `link</x|t>("x") ": b"`)
}

// TestOwnLabelBytes: what counts are the bytes as they stand, and only if they are a label as a whole.
func TestOwnLabelBytes(t *testing.T) {
	defs := []api.Def{
		{Label: "a\\]b", Dest: "1"}, {Label: "a]b", Dest: "2"}, {Label: "c&amp;d", Dest: "3"}, {Label: "c&d", Dest: "4"}, {Label: "`e`", Dest: "5"}, {Label: "`]`", Dest: "6"},
		{Label: "![x]", Dest: "7"}, {Label: "g [x]", Dest: "8"}, {Label: "x", Dest: "9"}, {Label: many("h", 999), Dest: "10"}, {Label: many("i", 1000), Dest: "11"}, {Label: "<j k='", Dest: "12"}, {Label: "`", Dest: "13"},
	}
	checkWith(t, defs, "[a\\]b]", `link<1|>("a]b")`)
	checkWith(t, defs, "[a]b]", `"[a]b]"`)
	checkWith(t, defs, "[a&#93;b]", `"[a]b]"`)
	checkWith(t, defs, "[c&amp;d]", `link<3|>("c&d")`)
	checkWith(t, defs, "[c&d]", `link<4|>("c&d")`)
	checkWith(t, defs, "[`e`]", "link<5|>(span\"e\")")
	checkWith(t, defs, "[`]`]", "\"[\" span\"]\" \"]\"")
	checkWith(t, defs, "[`]`][]", "\"[\" span\"]\" \"][]\"")
	checkWith(t, defs, "[![x]]", `"[" image<9|>("x") "]"`)
	checkWith(t, defs, "[g [x]]", `"[g " link<9|>("x") "]"`)
	checkWith(t, defs, "[g \\[x]", `"[g [x]"`)
	checkWith(t, defs, "[<j k=']'>]", `"[" raw"<j k=']'>" "]"`)
	checkWith(t, defs, "["+many("h", 999)+"]", fmt.Sprintf("link<10|>(%q)", many("h", 999)))
	checkWith(t, defs, "["+many("i", 1000)+"]", fmt.Sprintf("%q", "["+many("i", 1000)+"]"))
	checkWith(t, defs, "[x]["+many("H", 999)+"]", `link<10|>("x")`)
	checkWith(t, defs, "[X]["+many("i", 1000)+"]", fmt.Sprintf(`link<9|>("X") "[%s]"`, many("i", 1000)))
}

// TestFirstThatFits: a place counts more than a label, and a label behind more than the own bytes.
func TestFirstThatFits(t *testing.T) {
	check(t, "[x](b)", `link<b|>("x")`)
	check(t, "[x]()", `link<|>("x")`)
	check(t, "[x][y z]", `link</yz|>("x")`)
	check(t, "[x](b", `link</x|t>("x") "(b"`)
	check(t, "[x](b [y z]", `link</x|t>("x") "(b " link</yz|>("y z")`)
}

// TestInactive: behind a link all openers of links ahead of it are text, with their closers.
func TestInactive(t *testing.T) {
	check(t, "[a [b](c) d](e)", `"[a " link<c|>("b") " d](e)"`)
	check(t, "[[a](b)](c)", `"[" link<b|>("a") "](c)"`)
	check(t, "[[x]](c)", `"[" link</x|t>("x") "](c)"`)
	check(t, "[[x][]](c)", `"[" link</x|t>("x") "](c)"`)
	check(t, "[[a][x]][x]", `"[" link</x|t>("a") "]" link</x|t>("x")`)
	check(t, "[[[a](b)](c)](d)", `"[[" link<b|>("a") "](c)](d)"`)
	check(t, "[*[a](b)*](c)", `"[" emph(link<b|>("a")) "](c)"`)
	check(t, "[a](b)[c](d)", `link<b|>("a") link<d|>("c")`)
	check(t, "[ [a](b) [c](d) ](e)", `"[ " link<b|>("a") " " link<d|>("c") " ](e)"`)
	check(t, "[[a](b)] [c](d)", `"[" link<b|>("a") "] " link<d|>("c")`)
	check(t, "[[[a](b)] [c](d)](e)", `"[[" link<b|>("a") "] " link<d|>("c") "](e)"`)
	check(t, "[[a](b)]] [c](d)", `"[" link<b|>("a") "]] " link<d|>("c")`)
	check(t, "[[a]](b)", `link<b|>("[a]")`)
	check(t, "[[a](b c)](d)", `link<d|>("[a](b c)")`)
}

// TestImages: images stand in links and in images, links in images; no image makes an opener inactive, and no image's is.
func TestImages(t *testing.T) {
	check(t, "[![a](b)](c)", `link<c|>(image<b|>("a"))`)
	check(t, "[![x]][x]", `link</x|t>(image</x|t>("x"))`)
	check(t, "[![a](b) ![c](d)](e)", `link<e|>(image<b|>("a") " " image<d|>("c"))`)
	check(t, "![[a](b)](c)", `image<c|>(link<b|>("a"))`)
	check(t, "![a [b](c) [d](e)](f)", `image<f|>("a " link<c|>("b") " " link<e|>("d"))`)
	check(t, "![![a](b)](c)", `image<c|>(image<b|>("a"))`)
	check(t, "![[[a](b)](c)](d)", `image<d|>("[" link<b|>("a") "](c)")`)
	check(t, "[![[a](b)](c)](d)", `"[" image<c|>(link<b|>("a")) "](d)"`)
	check(t, "[![a [b](c) d](e) f](g)", `"[" image<e|>("a " link<c|>("b") " d") " f](g)"`)
	check(t, "![[![a](b)](c)](d)", `image<d|>(link<c|>(image<b|>("a")))`)
	check(t, "[a ![b [c](d) [e ![f](g)](h)", `"[a ![b " link<d|>("c") " " link<h|>("e " image<g|>("f"))`)
}

// TestAutoInLink: one that Auto tells may stand in a link, and makes no opener inactive.
func TestAutoInLink(t *testing.T) {
	check(t, "[<ab:c>](d)", `link<d|>(link<ab:c|>("ab:c"))`)
	check(t, "[a *<b@c>*][x]", `link</x|t>("a " emph(link<mailto:b@c|>("b@c")))`)
	check(t, "![<ab:c>](d)", `image<d|>(link<ab:c|>("ab:c"))`)
}

// TestOpenerGone: a closer takes the last opener away, also where no link comes of it.
func TestOpenerGone(t *testing.T) {
	check(t, "[a [b] c](d)", `link<d|>("a [b] c")`)
	check(t, "[a [b] [c] d](e)", `link<e|>("a [b] [c] d")`)
	check(t, "[a] b](c)", `"[a] b](c)"`)
	check(t, "[a ![b] c](d)", `link<d|>("a ![b] c")`)
	check(t, "![a [b] c](d)", `image<d|>("a [b] c")`)
	check(t, "[a\\] b](c)", `link<c|>("a] b")`)
}
