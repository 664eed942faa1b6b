package include

import (
	"regexp"
	"strings"
	"testing"
)

// names is another reading of Name.
var names = regexp.MustCompile(`^[a-z][a-z0-9-]{0,15}$`)

// many is a text that stands n times.
func many(s string, n int) string { return strings.Repeat(s, n) }

// eachText calls f with every text of at most most pieces.
func eachText(pieces []string, most int, f func(string)) {
	var add func(s string, left int)
	add = func(s string, left int) {
		f(s)
		if left == 0 {
			return
		}
		for _, p := range pieces {
			add(s+p, left-1)
		}
	}
	add("", most)
}

func TestName(t *testing.T) {
	for s, want := range map[string]bool{
		"":                       false,
		"a":                      true,
		"z":                      true,
		"m":                      true,
		"a-":                     true,
		"a--":                    true,
		"a0":                     true,
		"a9-z":                   true,
		"abcdefghijklmnop":       true,
		"a-23456789012345":       true,
		"abcdefghijklmnopq":      false,
		"a-234567890123456":      false,
		many("a", 15):            true,
		many("a", 16):            true,
		many("a", 17):            false,
		many("a", 100000):        false,
		many("a", 15) + "-":      true,
		many("a", 15) + "9":      true,
		many("a", 15) + "A":      false,
		many("a", 16) + "-":      false,
		"-" + many("a", 15):      false,
		"0":                      false,
		"9a":                     false,
		"-":                      false,
		"-a":                     false,
		"A":                      false,
		"aA":                     false,
		"Z":                      false,
		"a/b":                    false,
		"a@1":                    false,
		"a_b":                    false,
		"a.b":                    false,
		" a":                     false,
		"a ":                     false,
		"a b":                    false,
		"a\n":                    false,
		"\ta":                    false,
		"a\x00":                  false,
		"ä":                      false,
		"aä":                     false,
		"a\u0660":                false,
		"a\u2010":                false,
		"\uff41":                 false,
		"a\xff":                  false,
		"\xe4":                   false,
		many("ä", 8):             false,
		"root":                   true,
		"xn--4ca":                true,
		"the-sixteenth-00":       true,
		"the-seventeenth-0":      false,
		"a" + many("-", 15):      true,
		"a" + many("0", 15):      true,
		"a" + many("\u00e9", 10): false,
	} {
		if got := Name(s); got != want {
			t.Errorf("Name(%q) is %v", s, got)
		}
	}
}

// TestNameOfEachByte has each byte first, in the middle and last, in names of each length about the bound.
func TestNameOfEachByte(t *testing.T) {
	for i := range 256 {
		c := string([]byte{byte(i)})
		first := 'a' <= i && i <= 'z'
		behind := first || '0' <= i && i <= '9' || i == '-'
		for s, want := range map[string]bool{
			c:                              first,
			c + "a":                        first,
			c + many("b", 15):              first,
			c + many("b", 16):              false,
			"a" + c:                        behind,
			"a" + c + "a":                  behind,
			"a" + many("b", 14) + c:        behind,
			"a" + many("b", 15) + c:        false,
			"a" + c + many("-", 14):        behind,
			"a" + many("9", 7) + c + "-a0": behind,
			c + c:                          first,
		} {
			if got := Name(s); got != want {
				t.Errorf("Name(%q) is %v", s, got)
			}
		}
	}
}

func TestNameOfAllShortTexts(t *testing.T) {
	pieces := []string{"a", "z", "0", "9", "-", "A", "/", " ", "ä", "\xff", "aaaaaaaaaaaaa"}
	eachText(pieces, 5, func(s string) {
		if got, want := Name(s), names.MatchString(s); got != want {
			t.Fatalf("Name(%q) is %v", s, got)
		}
	})
}
