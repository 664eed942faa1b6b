package span

import (
	"regexp"
	"strings"
	"testing"
)

func TestCodeCases(t *testing.T) {
	cases := []struct {
		text, want string
		size       int
	}{
		{"` a `", "a", 5},
		{"`` a ` b ``", "a ` b", 11},
		{"` ", "", 0},
		{"", "", 0},
		{"a", "", 0},
		{" `a`", "", 0},
		{"a`b`", "", 0},
		{"\\`a`", "", 0},
		{"`", "", 0},
		{"``", "", 0},
		{"```", "", 0},
		{"`a", "", 0},
		{"`a``", "", 0},
		{"``a`", "", 0},
		{"``a```", "", 0},
		{"```a``", "", 0},
		{"`a`", "a", 3},
		{"`a`b`", "a", 3},
		{"`a` `b`", "a", 3},
		{"`a``b`", "a``b", 6},
		{"`a``b```c`d", "a``b```c", 10},
		{"``a`b``c", "a`b", 7},
		{"``a`b```c``", "a`b```c", 11},
		{"```a``b`c```", "a``b`c", 12},
		{"`a```b`` c`", "a```b`` c", 11},
		{"` `", " ", 3},
		{"`  `", "  ", 4},
		{"`   `", "   ", 5},
		{"` a`", " a", 4},
		{"`a `", "a ", 4},
		{"`  a  `", " a ", 7},
		{"`  a `", " a", 6},
		{"` a  `", "a ", 6},
		{"` `` `", "``", 6},
		{"`` ` ``", "`", 7},
		{"`a\nb`", "a b", 5},
		{"`\na\n`", "a", 5},
		{"`\na `", "a", 5},
		{"`\n\na\n\n`", " a ", 7},
		{"`a\n\n b`", "a   b", 7},
		{"`\n`", " ", 3},
		{"` \n `", "   ", 5},
		{"`\n\n`", "  ", 4},
		{"`\ta\t`", "\ta\t", 5},
		{"`\t`", "\t", 3},
		{"` \t `", "\t", 5},
		{"`\ra\r\n`", "\ra\r ", 6},
		{"`\u00a0a\u00a0`", "\u00a0a\u00a0", 7},
		{"` \x00\xff `x", "\x00\xff", 6},
		{"`\\`b`", "\\", 3},
		{"`&amp;<a>`", "&amp;<a>", 10},
	}
	for _, c := range cases {
		if got, size := Code(c.text); got != c.want || size != c.size {
			t.Errorf("Code(%q) is %q, %d, not %q, %d", c.text, got, size, c.want, c.size)
		}
	}
}

// codeByHand lists all runs first, and takes the first two that are alike.
func codeByHand(runs *regexp.Regexp, s string) (string, int) {
	at := runs.FindAllStringIndex(s, -1)
	if len(at) == 0 || at[0][0] != 0 {
		return "", 0
	}
	for _, r := range at[1:] {
		if r[1]-r[0] != at[0][1] {
			continue
		}
		inner := strings.Join(strings.Split(s[at[0][1]:r[0]], "\n"), " ")
		if stripped := strings.TrimLeft(inner, " "); stripped != "" && stripped != inner && inner[len(inner)-1] == ' ' {
			inner = strings.TrimPrefix(strings.TrimSuffix(inner, " "), " ")
		}
		return inner, r[1]
	}
	return "", 0
}

func TestCodeShortTexts(t *testing.T) {
	runs := regexp.MustCompile("`+")
	found := 0
	eachText([]string{"`", "``", "a", " ", "\n", "\t"}, 7, func(s string) {
		want, size := codeByHand(runs, s)
		got, n := Code(s)
		if got != want || n != size {
			t.Fatalf("Code(%q) is %q, %d, not %q, %d", s, got, n, want, size)
		}
		if n == 0 {
			return
		}
		found++
		if s[0] != '`' || s[n-1] != '`' {
			t.Fatalf("Code(%q) takes %q", s, s[:n])
		}
	})
	if found == 0 {
		t.Error("no text has Code")
	}
}

func TestCodeOfLongRuns(t *testing.T) {
	for k := 1; k <= 300; k++ {
		run := strings.Repeat("`", k)
		text := run + "a" + run + "`b" + run
		if got, size := Code(text + "c"); got != "a"+run+"`b" || size != len(text) {
			t.Errorf("k %d: Code is %q, %d", k, got, size)
		}
		if got, size := Code(text + "`"); got != "" || size != 0 {
			t.Errorf("k %d and one more: Code is %q, %d", k, got, size)
		}
	}
}
