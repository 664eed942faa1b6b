package leaf

import (
	"math"
	"regexp"
	"strings"
	"testing"

	"scriptorium/escape"
)

func TestRuleCases(t *testing.T) {
	for _, s := range []string{
		"***", "---", "___", "****", "* * *", "- - -", "_ _ _", "*\t*\t*", "** *", "* **", "_  _\t _", "--- ", "---\t", "*** \t \t", "_____________", "-  -  -  -", "- -- ---  ",
	} {
		if !Rule(s) {
			t.Errorf("Rule(%q) does not hold", s)
		}
	}
	for _, s := range []string{
		"", " ", "\t", "*", "**", "--", "__", "- -", "* * ", "** \t", "_ _ _ a", "a---", "---a", "- - a -", "*-*", "--_", "***_", "** -", "===", "+++", "~~~", "```", "###", "\\***", "---\n", "--\n-", "---\r", "---\x00", "---\u00a0", "\u2014\u2014\u2014", " ---", "\t***", "---\x0b", "--\x0c-",
	} {
		if Rule(s) {
			t.Errorf("Rule(%q) holds", s)
		}
	}
}

func TestUnderlineCases(t *testing.T) {
	cases := map[string]int{
		"=": 1, "==": 1, "===": 1, "= ": 1, "== ": 1, "==\t \t": 1, "==========": 1,
		"-": 2, "--": 2, "---": 2, "- ": 2, "-\t": 2, "------ \t": 2,
		"": 0, " ": 0, "\t": 0, "=-": 0, "-=": 0, "= =": 0, "- -": 0, "--- -": 0, "=a": 0, "= a": 0, "a=": 0, "a": 0, " =": 0, "\t-": 0, "=\n": 0, "-\r": 0, "+": 0, "*": 0, "_": 0, "\\=": 0, "==\u00a0": 0, "\u2014": 0, "\uff1d": 0,
	}
	for s, want := range cases {
		if got := Underline(s); got != want {
			t.Errorf("Underline(%q) is %d, not %d", s, got, want)
		}
	}
}

func TestRuleAndUnderlineByPattern(t *testing.T) {
	rule := regexp.MustCompile(`^(?:(?:\*[ \t]*){3,}|(?:-[ \t]*){3,}|(?:_[ \t]*){3,})$`)
	first := regexp.MustCompile(`^=+[ \t]*$`)
	second := regexp.MustCompile(`^-+[ \t]*$`)
	found := [2]int{}
	check := func(s string) {
		is := rule.MatchString(s)
		if Rule(s) != is {
			t.Fatalf("Rule(%q) is %v", s, !is)
		}
		want := 0
		if first.MatchString(s) {
			want = 1
		}
		if second.MatchString(s) {
			want = 2
		}
		if got := Underline(s); got != want {
			t.Fatalf("Underline(%q) is %d, not %d", s, got, want)
		}
		if is {
			found[0]++
		}
		if want > 0 {
			found[1]++
		}
	}
	eachText([]string{"*", "-", "_", "=", " ", "\t", "a"}, 6, check)
	eachFrame([]string{"@", "@@@", "@--", "-@-", "--@", "---@", "-@--", "@==", "=@=", "==@", "== @", "* *@ *", "_@__"}, check)
	if found[0] == 0 || found[1] == 0 {
		t.Errorf("found %v", found)
	}
}

func TestHeadingCases(t *testing.T) {
	cases := []struct {
		line  string
		level int
		text  string
	}{
		{"## a #b ##", 2, "a #b"},
		{"#a", 0, ""},
		{"#", 1, ""},
		{"### ###", 3, ""},
		{"# a", 1, "a"},
		{"## a", 2, "a"},
		{"### a", 3, "a"},
		{"#### a", 4, "a"},
		{"##### a", 5, "a"},
		{"###### a", 6, "a"},
		{"####### a", 0, ""},
		{"######## a", 0, ""},
		{"######", 6, ""},
		{"#######", 0, ""},
		{"###### ", 6, ""},
		{"####### ", 0, ""},
		{"", 0, ""},
		{" ", 0, ""},
		{"a", 0, ""},
		{"a # b", 0, ""},
		{" # a", 0, ""},
		{"\t# a", 0, ""},
		{"\\# a", 0, ""},
		{"#\ta", 1, "a"},
		{"# \t a \t ", 1, "a"},
		{"# ", 1, ""},
		{"#\t", 1, ""},
		{"# \t ", 1, ""},
		{"# #", 1, ""},
		{"#\t#\t", 1, ""},
		{"# ########## ", 1, ""},
		{"# a #", 1, "a"},
		{"# a\t#", 1, "a"},
		{"# a \t ### \t", 1, "a"},
		{"# a ##########", 1, "a"},
		{"# a#", 1, "a#"},
		{"# a##  ", 1, "a##"},
		{"# a # b", 1, "a # b"},
		{"# a # #", 1, "a #"},
		{"# # #", 1, "#"},
		{"# # a #", 1, "# a"},
		{"# ## a", 1, "## a"},
		{"# #a", 1, "#a"},
		{"# #a #", 1, "#a"},
		{"# a \\#", 1, "a \\#"},
		{"# a #\\##", 1, "a #\\##"},
		{"# \\# #", 1, "\\#"},
		{"# *a* &amp; `b` <c> ##", 1, "*a* &amp; `b` <c>"},
		{"# a  b\tc", 1, "a  b\tc"},
		{"#\u00a0a", 0, ""},
		{"# \u00a0a\u00a0 #", 1, "\u00a0a\u00a0"},
		{"# a\u00a0#", 1, "a\u00a0#"},
		{"#\na", 0, ""},
		{"#\n", 0, ""},
		{"#\r", 0, ""},
		{"# a\r", 1, "a\r"},
		{"# \n", 1, "\n"},
		{"# a\n#", 1, "a\n#"},
		{"# \x00\xff #", 1, "\x00\xff"},
		{"\uff03 a", 0, ""},
		{"# a #\x80", 1, "a #\x80"},
	}
	for _, c := range cases {
		if level, text := Heading(c.line); level != c.level || text != c.text {
			t.Errorf("Heading(%q) is %d, %q, not %d, %q", c.line, level, text, c.level, c.text)
		}
	}
}

func TestHeadingByPattern(t *testing.T) {
	pattern := regexp.MustCompile(`(?s)^(#{1,6})(?:[ \t]+(|.*?[^ \t]))??(?:[ \t]+#*)?[ \t]*$`)
	found := 0
	check := func(s string) {
		level, text := 0, ""
		if m := pattern.FindStringSubmatch(s); m != nil {
			level, text = len(m[1]), m[2]
			found++
		}
		if n, got := Heading(s); n != level || got != text {
			t.Fatalf("Heading(%q) is %d, %q, not %d, %q", s, n, got, level, text)
		}
	}
	eachText([]string{"#", "####", "a", " ", "\t", "\\", "\n"}, 6, check)
	eachText([]string{"#", "a", " ", "\t"}, 7, func(s string) { check("# " + s) })
	eachFrame([]string{"@", "@ a", "#@", "#@a", "#@ a", "# @", "# a@", "# a@#", "# a @", "# a @#", "# a #@", "# a #@#", "######@"}, check)
	if found == 0 {
		t.Error("no line is a heading")
	}
}

// fence is all that Fence tells.
type fence struct {
	sign byte
	size int
	info string
}

func fenceOf(s string) fence {
	sign, size, info := Fence(s)
	return fence{sign, size, info}
}

func TestFenceCases(t *testing.T) {
	cases := []struct {
		line string
		want fence
	}{
		{"``` a\\*b", fence{'`', 3, "a*b"}},
		{"```", fence{'`', 3, ""}},
		{"~~~", fence{'~', 3, ""}},
		{"````", fence{'`', 4, ""}},
		{"~~~~~", fence{'~', 5, ""}},
		{"", fence{}},
		{"`", fence{}},
		{"``", fence{}},
		{"~", fence{}},
		{"~~", fence{}},
		{"`` `", fence{}},
		{"``~", fence{}},
		{"~~`", fence{}},
		{"~~ ~", fence{}},
		{"a```", fence{}},
		{" ```", fence{}},
		{"\t~~~", fence{}},
		{"\\```", fence{}},
		{"---", fence{}},
		{"'''", fence{}},
		{"```go", fence{'`', 3, "go"}},
		{"```\tgo \t", fence{'`', 3, "go"}},
		{"```  go  a  ", fence{'`', 3, "go  a"}},
		{"~~~ \t ", fence{'~', 3, ""}},
		{"``` a`", fence{}},
		{"```a```", fence{}},
		{"``` `", fence{}},
		{"``` \\`", fence{}},
		{"``` ~~~", fence{'`', 3, "~~~"}},
		{"```~", fence{'`', 3, "~"}},
		{"~~~ a`b", fence{'~', 3, "a`b"}},
		{"~~~```", fence{'~', 3, "```"}},
		{"~~~ ~~~", fence{'~', 3, "~~~"}},
		{"~~~a~", fence{'~', 3, "a~"}},
		{"~~~ \\~\\`\\a", fence{'~', 3, "~`\\a"}},
		{"``` &amp;&lt;", fence{'`', 3, "&<"}},
		{"``` &#96;", fence{'`', 3, "`"}},
		{"``` &#32;a&#9;", fence{'`', 3, " a\t"}},
		{"``` a\\ ", fence{'`', 3, "a\\"}},
		{"``` a\\\\", fence{'`', 3, "a\\"}},
		{"``` &nope;", fence{'`', 3, "&nope;"}},
		{"```\u00a0a", fence{'`', 3, "\u00a0a"}},
		{"```a\r", fence{'`', 3, "a\r"}},
		{"```\na", fence{'`', 3, "\na"}},
		{"~~~\x00\xff", fence{'~', 3, "\x00\xff"}},
	}
	for _, c := range cases {
		if got := fenceOf(c.line); got != c.want {
			t.Errorf("Fence(%q) is %+v, not %+v", c.line, got, c.want)
		}
	}
}

func TestFenceByPattern(t *testing.T) {
	accents := regexp.MustCompile("(?s)^(`{3,})[ \\t]*([^`]*?)[ \\t]*$")
	tildes := regexp.MustCompile(`(?s)^(~{3,})[ \t]*(.*?)[ \t]*$`)
	found := map[byte]int{}
	check := func(s string) {
		var want fence
		for _, pattern := range []*regexp.Regexp{accents, tildes} {
			if m := pattern.FindStringSubmatch(s); m != nil {
				want = fence{s[0], len(m[1]), escape.Unescape(m[2])}
				found[s[0]]++
			}
		}
		if got := fenceOf(s); got != want {
			t.Fatalf("Fence(%q) is %+v, not %+v", s, got, want)
		}
	}
	eachText([]string{"`", "``", "~", "~~", "a", " ", "\t", "\\", "&lt;"}, 5, check)
	eachText([]string{"`", "~", "a", " ", "\t", "\\", "*"}, 4, func(s string) {
		check("```" + s)
		check("~~~" + s)
	})
	eachFrame([]string{"@", "@@@", "@``", "`@`", "``@", "```@", "```@a", "```a@", "``` \\@", "~~@", "~~~@", "~~~ @ ", "~~~ \\@"}, check)
	if found['`'] == 0 || found['~'] == 0 {
		t.Errorf("found %v", found)
	}
}

func TestClosesCases(t *testing.T) {
	cases := []struct {
		line string
		c    byte
		n    int
		want bool
	}{
		{"```", '`', 3, true},
		{"````", '`', 3, true},
		{"```", '`', 4, false},
		{"````", '`', 4, true},
		{"``", '`', 3, false},
		{"~~~", '~', 3, true},
		{"~~~~ \t", '~', 3, true},
		{"~~~~~~~", '~', 5, true},
		{"~~~ a", '~', 3, false},
		{"~~~a", '~', 3, false},
		{"~~~", '`', 3, false},
		{"```", '~', 3, false},
		{"~~~`", '~', 3, false},
		{"```~", '`', 3, false},
		{"``` ```", '`', 3, false},
		{"``` `", '`', 3, false},
		{"`` `", '`', 3, false},
		{" ```", '`', 3, false},
		{"```\n", '`', 3, false},
		{"```\r", '`', 3, false},
		{"```\u00a0", '`', 3, false},
		{"", '`', 3, false},
		{"", '`', 1, false},
		{"", '`', 0, false},
		{"", '`', -1, false},
		{" ", '`', 0, false},
		{"\t", '~', math.MinInt, false},
		{"`", '`', 0, true},
		{"`", '`', -7, true},
		{"` ", '`', math.MinInt, true},
		{"`", '`', 1, true},
		{"`", '`', 2, false},
		{"a", '`', 0, false},
		{"`a", '`', 0, false},
		{"~~~", '~', math.MaxInt, false},
		{"aaa\t", 'a', 3, true},
		{"\x00\x00", 0, 2, true},
		{"\xff\xff ", 0xff, 2, true},
		{"\xff\xfe", 0xff, 1, false},
		{"\xc3\xa9", 0xc3, 1, false},
		{"\xc3\xa9", 0xe9, 1, false},
		{"\xe9", 0xe9, 1, true},
		{"", 0, 0, false},
		{"  \t", ' ', 2, true},
		{" \t ", ' ', 2, false},
		{"\t ", '\t', 1, true},
		{"\n", '\n', 1, true},
	}
	for _, c := range cases {
		if got := Closes(c.line, c.c, c.n); got != c.want {
			t.Errorf("Closes(%q, %q, %d) is %v", c.line, c.c, c.n, got)
		}
	}
}

// closesByHand takes the gap away first: of the byte alone must be what is left.
func closesByHand(s string, c byte, n int) bool {
	ahead := strings.TrimRight(s, " \t")
	return len(ahead) >= 1 && len(ahead) >= n && strings.Count(ahead, string([]byte{c})) == len(ahead)
}

func TestClosesShortTexts(t *testing.T) {
	found := 0
	check := func(s string) {
		for n := -1; n <= 7; n++ {
			for _, c := range []byte{'`', '~', 'a', '='} {
				want := closesByHand(s, c, n)
				if got := Closes(s, c, n); got != want {
					t.Fatalf("Closes(%q, %q, %d) is %v", s, c, n, got)
				}
				if want {
					found++
				}
			}
		}
	}
	eachText([]string{"`", "~", "a", " ", "\t", "\n"}, 6, check)
	eachFrame([]string{"@", "@~~", "~@~", "~~@", "~~~@", "~~~ @", "~~~@ "}, check)
	if found == 0 {
		t.Error("no line closes")
	}
}

// TestFencesClose: what begins a fence, without its info, ends it.
func TestFencesClose(t *testing.T) {
	for size := 1; size <= 40; size++ {
		for _, sign := range []string{"`", "~"} {
			line := strings.Repeat(sign, size)
			c, n, _ := Fence(line + " a")
			if is := size >= 3; (n == size) != is || (c == sign[0]) != is {
				t.Errorf("Fence of %d %s is %q, %d", size, sign, c, n)
			}
			if !Closes(line, sign[0], size) || !Closes(line+sign, sign[0], size) || Closes(line, sign[0], size+1) || Closes(line[1:], sign[0], size) {
				t.Errorf("Closes of %d %s", size, sign)
			}
		}
	}
}

// marker is all that Marker tells.
type marker struct {
	sign         byte
	size, number int
}

func markerOf(s string) marker {
	sign, size, number := Marker(s)
	return marker{sign, size, number}
}

func TestMarkerCases(t *testing.T) {
	cases := []struct {
		line string
		want marker
	}{
		{"12) a", marker{')', 3, 12}},
		{"-", marker{'-', 1, 0}},
		{"-a", marker{}},
		{"1234567890.", marker{}},
		{"+", marker{'+', 1, 0}},
		{"*", marker{'*', 1, 0}},
		{"- a", marker{'-', 1, 0}},
		{"+\ta", marker{'+', 1, 0}},
		{"*   a", marker{'*', 1, 0}},
		{"- - a", marker{'-', 1, 0}},
		{"* * *", marker{'*', 1, 0}},
		{"- 1.", marker{'-', 1, 0}},
		{"", marker{}},
		{" ", marker{}},
		{"a", marker{}},
		{"_", marker{}},
		{"=", marker{}},
		{"_ a", marker{}},
		{"--", marker{}},
		{"-- a", marker{}},
		{"-.", marker{}},
		{"-1.", marker{}},
		{"+1) a", marker{}},
		{"-\n", marker{}},
		{"-\r", marker{}},
		{"-\u00a0a", marker{}},
		{" - a", marker{}},
		{"\\- a", marker{}},
		{"\u2022 a", marker{}},
		{"1.", marker{'.', 2, 1}},
		{"1)", marker{')', 2, 1}},
		{"1. a", marker{'.', 2, 1}},
		{"1.\ta", marker{'.', 2, 1}},
		{"0.", marker{'.', 2, 0}},
		{"0) a", marker{')', 2, 0}},
		{"003. a", marker{'.', 4, 3}},
		{"000000000. a", marker{'.', 10, 0}},
		{"0000000001. a", marker{}},
		{"10.", marker{'.', 3, 10}},
		{"123456789.", marker{'.', 10, 123456789}},
		{"999999999) a", marker{')', 10, 999999999}},
		{"9876543210) a", marker{}},
		{"99999999999999999999. a", marker{}},
		{"1", marker{}},
		{"1 ", marker{}},
		{"1 .", marker{}},
		{"1a.", marker{}},
		{"1.a", marker{}},
		{"1.1", marker{}},
		{"1.2. a", marker{}},
		{"1.) a", marker{}},
		{"1). a", marker{}},
		{"1- a", marker{}},
		{"1* a", marker{}},
		{"1+ a", marker{}},
		{"1: a", marker{}},
		{"(1) a", marker{}},
		{".", marker{}},
		{")", marker{}},
		{". a", marker{}},
		{") a", marker{}},
		{"1.\n", marker{}},
		{"1)\u00a0", marker{}},
		{"a. b", marker{}},
		{"\u0661. a", marker{}},
		{"\uff11. a", marker{}},
	}
	for _, c := range cases {
		if got := markerOf(c.line); got != c.want {
			t.Errorf("Marker(%q) is %+v, not %+v", c.line, got, c.want)
		}
	}
}

func TestMarkerByPattern(t *testing.T) {
	sign := regexp.MustCompile(`^[-+*](?:[ \t]|$)`)
	digits := regexp.MustCompile(`^([0-9]{1,9})([.)])(?:[ \t]|$)`)
	found := [2]int{}
	check := func(s string) {
		var want marker
		if sign.MatchString(s) {
			want = marker{s[0], 1, 0}
			found[0]++
		}
		if m := digits.FindStringSubmatch(s); m != nil {
			want = marker{m[2][0], len(m[1]) + 1, 0}
			for _, r := range m[1] {
				want.number = want.number*10 + int(r-'0')
			}
			found[1]++
		}
		if got := markerOf(s); got != want {
			t.Fatalf("Marker(%q) is %+v, not %+v", s, got, want)
		}
	}
	eachText([]string{"-", "+", "*", "1", "9", "0", ".", ")", " ", "\t", "a"}, 5, check)
	eachText([]string{"12", "0", "345", ".", ")", " ", "a"}, 6, check)
	eachFrame([]string{"@", "@ a", "-@", "-@a", "1@", "1@ a", "@.", "@. a", "1@.", "1.@", "1.@a", "1)@", "@1.", "12345678@.", "123456789@."}, check)
	if found[0] == 0 || found[1] == 0 {
		t.Errorf("found %v", found)
	}
}

// TestMarkerNumbers goes over numbers with each number of digits.
func TestMarkerNumbers(t *testing.T) {
	digits, number := "", 0
	for i := 1; i <= 12; i++ {
		digits += string(rune('0' + i%10))
		number = number*10 + i%10
		for _, sign := range []byte{'.', ')'} {
			var want marker
			if i <= 9 {
				want = marker{sign, i + 1, number}
			}
			for _, rest := range []string{"", " ", "\t", " a", "  - b"} {
				line := digits + string(rune(sign)) + rest
				if got := markerOf(line); got != want {
					t.Errorf("Marker(%q) is %+v, not %+v", line, got, want)
				}
			}
		}
	}
}
