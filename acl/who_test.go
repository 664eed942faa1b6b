package acl

import (
	"regexp"
	"strings"
	"testing"
)

// somebody is another reading of Who.
var somebody = regexp.MustCompile(`^([a-z][a-z0-9-]{0,15})/([a-z][a-z0-9-]{0,15})$`)

// many is a text that stands n times.
func many(s string, n int) string { return strings.Repeat(s, n) }

// checkWho holds Who of s against the pattern, and tells whether it is somebody.
func checkWho(t *testing.T, s string) bool {
	t.Helper()
	tenant, own, ok := Who(s)
	m := somebody.FindStringSubmatch(s)
	if m == nil {
		if tenant != "" || own != "" || ok {
			t.Errorf("Who(%q) is %q, %q, %v", s, tenant, own, ok)
		}
		return false
	}
	if tenant != m[1] || own != m[2] || !ok {
		t.Errorf("Who(%q) is %q, %q, %v, not %q", s, tenant, own, ok, m[1:])
	}
	return true
}

func TestWho(t *testing.T) {
	for _, c := range []struct{ s, tenant, own string }{
		{"a/x", "a", "x"}, {"a/root", "a", "root"}, {"b/root", "b", "root"}, {"a/a", "a", "a"}, {"root/root", "root", "root"},
		{"a-/x-9", "a-", "x-9"}, {"a0/z", "a0", "z"},
		{many("a", 16) + "/x", many("a", 16), "x"}, {"a/" + many("x", 16), "a", many("x", 16)},
		{many("a", 16) + "/" + many("x", 16), many("a", 16), many("x", 16)}, {"z-23456789012345/y-23456789012345", "z-23456789012345", "y-23456789012345"},
	} {
		tenant, own, ok := Who(c.s)
		if tenant != c.tenant || own != c.own || !ok {
			t.Errorf("Who(%q) is %q, %q, %v", c.s, tenant, own, ok)
		}
	}
}

func TestNobody(t *testing.T) {
	for _, s := range []string{
		"", "a", "root", "/", "//", "///", "a/", "/x", "a//x", "/a/x", "a/x/", "a/x/y", "a/x/root", "a/b/c/d", "//a/x", "a/x//",
		"A/x", "a/X", "a/Root", "a/ROOT", "0/x", "a/0", "-/x", "a/-", "-a/x", "a/-x", "a_/x", "a/x_", "a.b/x", "a/x.y", "a/x@1", "a@1/x",
		" a/x", "a/x ", "a /x", "a/ x", "a/x\n", "\na/x", "a/\tx", "a\x00/x", "a/x\x00", "a\\x", "a∕x", "a／x", "ä/x", "a/ä", "a/x\xff", "\xffa/x",
		many("a", 17) + "/x", "a/" + many("x", 17), many("a", 17) + "/" + many("x", 17), many("a", 16) + "/" + many("x", 17), many("a", 17) + "/" + many("x", 16),
		many("a", 33), many("/", 33), many("a", 1<<20), many("a/", 1<<20), "a/" + many("x", 1<<20), many("a", 1<<20) + "/x",
	} {
		if tenant, own, ok := Who(s); tenant != "" || own != "" || ok {
			t.Errorf("Who(%.40q) is %q, %q, %v", s, tenant, own, ok)
		}
	}
}

// TestWhoOfParts has each kind of text as either part, with no, one and more slashes.
func TestWhoOfParts(t *testing.T) {
	parts := []string{"", "a", "x", "root", "a-b", "a9", "Root", "9", "-", "a b", "ä", many("a", 15), many("a", 16), many("a", 17), many("b", 16) + "-"}
	n := 0
	for _, a := range parts {
		checkWho(t, a)
		checkWho(t, "/"+a)
		checkWho(t, a+"/")
		for _, b := range parts {
			for slashes := range 4 {
				if checkWho(t, a+many("/", slashes)+b) {
					n++
				}
			}
			for _, c := range parts {
				checkWho(t, a+"/"+b+"/"+c)
			}
		}
	}
	if n != 7*7 {
		t.Errorf("%d of them are somebody", n)
	}
}

// TestWhoOfBytes has every byte at each place of somebody, instead of what stands there and ahead of it.
func TestWhoOfBytes(t *testing.T) {
	for _, s := range []string{"a/x", "ab-1/x-2y", many("a", 16) + "/" + many("x", 16)} {
		for at := range len(s) + 1 {
			for c := range 256 {
				b := string([]byte{byte(c)})
				checkWho(t, s[:at]+b+s[at:])
				if at < len(s) {
					checkWho(t, s[:at]+b+s[at+1:])
				}
			}
			checkWho(t, s[:at])
			checkWho(t, s[at:])
		}
	}
}

// TestWhoOfShortTexts goes over all of them.
func TestWhoOfShortTexts(t *testing.T) {
	signs := []string{"a", "z", "0", "9", "-", "/", "A", " ", "é"}
	var add func(s string, left int)
	add = func(s string, left int) {
		checkWho(t, s)
		if left == 0 {
			return
		}
		for _, c := range signs {
			add(s+c, left-1)
		}
	}
	add("", 6)
}
