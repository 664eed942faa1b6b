package inline

import (
	"fmt"
	"testing"

	"scriptorium/api"
)

// side is what stands beside a run, and its class: s a Space, p a Punct, a another character.
type side struct {
	text  string
	class byte
}

// aheads and behinds are what may stand beside a run so that its last, or first, character has a class.
func aheads() []side {
	return append(sides(), side{"\\*", 'p'}, side{"&nbsp;", 'p'}, side{"`c`", 'p'}, side{"<b>", 'p'}, side{"\\\\", 'p'},
		side{"\xe2\x82", 'a'}, side{"\xe2\u00a1", 'p'}, side{"\u00a1\xa0", 'a'}, side{"\\  \n  ", 's'})
}

func behinds() []side {
	return append(sides(), side{"&nbsp;", 'p'}, side{"\\a", 'p'}, side{"`c`", 'p'}, side{"<b>", 'p'}, side{"![", 'p'},
		side{"\xe2\x80", 'a'}, side{"\xe2\u3000", 'a'}, side{"\u3000\xe2", 's'}, side{"  \n  ", 's'})
}

func sides() []side {
	return []side{
		{" ", 's'}, {"\t", 's'}, {"\n", 's'}, {"\f", 's'}, {"\r", 's'}, {"\u00a0", 's'}, {"\u1680", 's'}, {"\u2000", 's'}, {"\u200a", 's'}, {"\u202f", 's'}, {"\u205f", 's'}, {"\u3000", 's'},
		{".", 'p'}, {"(", 'p'}, {"$", 'p'}, {"~", 'p'}, {"[", 'p'}, {"]", 'p'}, {"&", 'p'}, {"<", 'p'}, {"\u00a1", 'p'}, {"\u00bf", 'p'}, {"\u00d7", 'p'}, {"\u2014", 'p'}, {"\u20ac", 'p'}, {"\u21ff", 'p'}, {"\u3001", 'p'},
		{"a", 'a'}, {"0", 'a'}, {"\x00", 'a'}, {"\v", 'a'}, {"\x7f", 'a'}, {"ä", 'a'}, {"\u00aa", 'a'}, {"\u200b", 'a'}, {"\u2028", 'a'}, {"\u20c1", 'a'}, {"中", 'a'}, {"😀", 'a'}, {"\ufffd", 'a'}, {"\xff", 'a'}, {"\xa0", 'a'}, {"\xa1", 'a'}, {"\xc2", 'a'},
	}
}

// does tells whether a run between two classes opens, and whether it closes. The two bytes differ within a word alone.
func does(sign string, ahead, behind byte) (bool, bool) {
	switch string([]byte{ahead, behind}) {
	case "aa":
		return sign == "*", sign == "*"
	case "pp":
		return true, true
	case "sa", "sp", "pa":
		return true, false
	case "as", "ap", "ps":
		return false, true
	}
	return false, false
}

// stressed tells whether emphasis stands anywhere among parts.
func stressed(l []api.Inline) bool {
	for _, x := range l {
		if x.Kind == api.Emph || x.Kind == api.Strong || stressed(x.Kids) {
			return true
		}
	}
	return false
}

// TestOpensAndCloses holds runs of one to four, between all classes, against another one that only closes, or only opens.
func TestOpensAndCloses(t *testing.T) {
	for _, sign := range []string{"*", "_"} {
		for size := 1; size <= 4; size++ {
			run := many(sign, size)
			for _, ahead := range aheads() {
				for _, behind := range behinds() {
					opens, closes := does(sign, ahead.class, behind.class)
					checkStressed(t, ahead.text+run+behind.text+"z"+run, opens)
					checkStressed(t, run+"z"+ahead.text+run+behind.text, closes)
				}
			}
		}
	}
}

func checkStressed(t *testing.T, s string, want bool) {
	t.Helper()
	if l := Parse(s, nil); stressed(l) != want {
		t.Errorf("Parse(%q) is %s", s, form(l))
	}
}

// TestEnds: beyond the text's ends stands a Space.
func TestEnds(t *testing.T) {
	for _, sign := range []string{"*", "_"} {
		for _, near := range sides() {
			opens, _ := does(sign, 's', near.class)
			_, closes := does(sign, near.class, 's')
			checkStressed(t, sign+near.text+"z"+sign, opens)
			checkStressed(t, sign+"z"+near.text+sign, closes)
		}
	}
	for _, s := range []string{"*", "**", "_", "____", "* a *", "** a **", "*a", "a*", "a*b", "_a", "a_", "* *", "_ _", "**\n**"} {
		checkStressed(t, s, false)
	}
}

// TestWithinWords: '*' may stand within a word, '_' not.
func TestWithinWords(t *testing.T) {
	check(t, "a*b*c", `"a" emph("b") "c"`)
	check(t, "a**b**c", `"a" strong("b") "c"`)
	check(t, "5*6*78", `"5" emph("6") "78"`)
	check(t, "_a_b_c_", `emph("a_b_c")`)
	check(t, "__a__b__c__", `strong("a__b__c")`)
	checkText(t, "a__b__c")
	checkText(t, "ä_ö_ü")
	checkText(t, "a_\"b\"_c")
	check(t, "a-_(b)_", `"a-" emph("(b)")`)
	check(t, "_(b)_.", `emph("(b)") "."`)
	checkText(t, "_(b)_a")
	check(t, "*(*b*)*", `emph("(" emph("b") ")")`)
	check(t, "_(_b_)_", `emph("(" emph("b") ")")`)
	checkText(t, "a*\"b\"*c")
}

// TestSameByte: '*' closes no '_', and '_' no '*'.
func TestSameByte(t *testing.T) {
	checkText(t, "*a_")
	checkText(t, "_a*")
	check(t, "*a _b* c_", `emph("a _b") " c_"`)
	check(t, "_a *b_ c*", `emph("a *b") " c*"`)
	check(t, "*a _b_ c*", `emph("a " emph("b") " c")`)
	check(t, "_a **b** c_", `emph("a " strong("b") " c")`)
	check(t, "*_a_*", `emph(emph("a"))`)
	check(t, "**__a__**", `strong(strong("a"))`)
	check(t, "*_a*_", `emph("_a") "_"`)
}

// TestNearest: of several openers the nearest one is taken, and what stands between is text from then on.
func TestNearest(t *testing.T) {
	check(t, "*a *b*", `"*a " emph("b")`)
	check(t, "*a *b* c*", `emph("a " emph("b") " c")`)
	check(t, "**a **b** c**", `strong("a " strong("b") " c")`)
	check(t, "*a **b*", `"*a *" emph("b")`)
	check(t, "*a _b __c*", `emph("a _b __c")`)
	check(t, "*a _b* c_ d_", `emph("a _b") " c_ d_"`)
	check(t, "_a *b _c* d_ e_", `emph("a " emph("b _c") " d") " e_"`)
	check(t, "*a*b*c*", `emph("a") "b" emph("c")`)
	check(t, "a* *b*", `"a* " emph("b")`)
	check(t, "a* b* c*", `"a* b* c*"`)
	check(t, "a*b c*", `"a" emph("b c")`)
}

// TestRuleOfThree: of a run that opens and closes, and one with which it is a multiple of 3, nothing comes, unless both are multiples.
func TestRuleOfThree(t *testing.T) {
	check(t, "*a**b*", `emph("a**b")`)
	check(t, "**a*b**", `strong("a*b")`)
	check(t, "a**b*c", `"a**b*c"`)
	check(t, "a*b**c", `"a*b**c"`)
	check(t, "a**b*", `"a**b*"`)
	check(t, "*a**b", `"*a**b"`)
	check(t, "**a*b", `"**a*b"`)
	check(t, "a*b**", `"a*b**"`)
	check(t, "a*b*****c", `"a*b*****c"`)
	check(t, "a****b**", `"a****b**"`)
	check(t, "a***b***c", `"a" emph(strong("b")) "c"`)
	check(t, "a***b******c", `"a" emph(strong("b")) "***c"`)
	check(t, "a******b***c", `"a***" emph(strong("b")) "c"`)
	check(t, "**a*", `"*" emph("a")`)
	check(t, "*a**", `emph("a") "*"`)
	check(t, "a**b**c", `"a" strong("b") "c"`)
	check(t, "a*b****c", `"a" emph("b") "***c"`)
	check(t, "._a__.b_", `"." emph("a") "_.b_"`)
	check(t, "_.__.a__", `"_." strong(".a")`)
	check(t, "_a.__.b_", `emph("a.__.b")`)
}

// TestNumbersAsTheyStood: what counts for the rule of three are the runs of the text, not what is left of them.
func TestNumbersAsTheyStood(t *testing.T) {
	check(t, "*a***b*", `emph("a") "*" emph("b")`)
	check(t, "*a**b***c", `emph("a" strong("b")) "c"`)
	check(t, "**a***b", `strong("a") "*b"`)
	check(t, "**a***b**", `strong("a") emph("b") "*"`)
	check(t, "*a *b***c", `emph("a " emph("b")) "*c"`)
	check(t, "***a*b*c", `"*" emph(emph("a") "b") "c"`)
	check(t, "a****b***c***d", `"a" emph(emph(strong("b")) "c") "**d"`)
}

// TestStrongFirst: two of each are used where two of each are left.
func TestStrongFirst(t *testing.T) {
	want := []string{`emph("a")`, `strong("a")`, `emph(strong("a"))`, `strong(strong("a"))`, `emph(strong(strong("a")))`, `strong(strong(strong("a")))`}
	for i, w := range want {
		for _, sign := range []string{"*", "_"} {
			run := many(sign, i+1)
			check(t, run+"a"+run, w)
		}
	}
	check(t, "***a** b*", `emph(strong("a") " b")`)
	check(t, "***a* b**", `strong(emph("a") " b")`)
	check(t, "*a **b***", `emph("a " strong("b"))`)
	check(t, "**a *b***", `strong("a " emph("b"))`)
	check(t, "***a**b***", `emph(strong("a") "b") "**"`)
	check(t, "****a*b***", `emph(strong(emph("a") "b"))`)
	check(t, "***a b c d***", `emph(strong("a b c d"))`)
}

// TestWhatIsLeft: of an opener's run it stands ahead, of a closer's behind.
func TestWhatIsLeft(t *testing.T) {
	for open := 1; open <= 7; open++ {
		for shut := 1; shut <= 7; shut++ {
			both := min(open, shut)
			want := `"a"`
			for range both / 2 {
				want = "strong(" + want + ")"
			}
			if both%2 == 1 {
				want = "emph(" + want + ")"
			}
			want = leftOver(open-both) + want
			if shut > both {
				want += fmt.Sprintf(" %q", many("*", shut-both))
			}
			check(t, many("*", open)+"a"+many("*", shut), want)
		}
	}
	check(t, "b***a*c", `"b**" emph("a") "c"`)
	check(t, "x *a*** y", `"x " emph("a") "** y"`)
}

func leftOver(n int) string {
	if n == 0 {
		return ""
	}
	return fmt.Sprintf("%q ", many("*", n))
}

// TestRowsOfTheirOwn: emphasis is looked for in a link's parts alone, and around a link with it as one part.
func TestRowsOfTheirOwn(t *testing.T) {
	check(t, "*[a*](b)", `"*" link<b|>("a*")`)
	check(t, "[*a](b)*", `link<b|>("*a") "*"`)
	check(t, "*[a](b)*", `emph(link<b|>("a"))`)
	check(t, "[*a*](b)", `link<b|>(emph("a"))`)
	check(t, "*a [b *c* d](e) f*", `emph("a " link<e|>("b " emph("c") " d") " f")`)
	check(t, "*a ![b* c](d) e*", `emph("a " image<d|>("b* c") " e")`)
	check(t, "*a [b* c", `emph("a [b") " c"`)
	check(t, "*a [b* c](d", `emph("a [b") " c](d"`)
	check(t, "**a [b *c](d) e*f**", `strong("a " link<d|>("b *c") " e*f")`)
	check(t, "[a*](b)*c*", `link<b|>("a*") emph("c")`)
}
