package leaf

import (
	"strings"
	"testing"
)

// eachText calls f with every text of at most most pieces.
func eachText(pieces []string, most int, f func(string)) {
	f("")
	if most == 0 {
		return
	}
	for _, p := range pieces {
		eachText(pieces, most-1, func(s string) { f(p + s) })
	}
}

// eachByte calls f with every byte, as a text.
func eachByte(f func(s string)) {
	for i := range 256 {
		f(string([]byte{byte(i)}))
	}
}

// eachFrame calls f with every frame, each byte in place of its '@'.
func eachFrame(frames []string, f func(s string)) {
	for _, frame := range frames {
		eachByte(func(c string) { f(strings.Replace(frame, "@", c, 1)) })
	}
}

// kindsOf are what a line is of Rule, Heading, Fence and HTML.
func kindsOf(s string) []string {
	var l []string
	if Rule(s) {
		l = append(l, "Rule")
	}
	if n, _ := Heading(s); n > 0 {
		l = append(l, "Heading")
	}
	if _, n, _ := Fence(s); n > 0 {
		l = append(l, "Fence")
	}
	if HTML(s) > 0 {
		l = append(l, "HTML")
	}
	return l
}

// TestNoTwo: a line is one of four things, or none.
func TestNoTwo(t *testing.T) {
	found := map[string]int{}
	check := func(s string) {
		l := kindsOf(s)
		if len(l) > 1 {
			t.Fatalf("%q is %v", s, l)
		}
		for _, kind := range l {
			found[kind]++
		}
	}
	eachText([]string{"***", "---", "___", "```", "~~~", "#", "<", "a", ">", " ", "\t"}, 5, check)
	eachFrame([]string{"@", "@@", "@--", "-@-", "@```", "@# a", "#@", "# @", "@<a>", "<@>", "<a>@", "~~~@", "@~~~"}, check)
	if len(found) != 4 {
		t.Errorf("found only %v", found)
	}
}

// TestFirstByteDecides: with something ahead of it that no line of its kind begins with, nothing is left of it.
func TestFirstByteDecides(t *testing.T) {
	for _, s := range []string{"***", "===", "---", "# a", "```", "~~~a", "<div>", "<a>", "<!--", "- a", "1. a"} {
		for _, first := range []string{" ", "\t", "a", "\\", "\n", "\x00", "\xff"} {
			line := first + s
			if l := kindsOf(line); len(l) > 0 {
				t.Errorf("%q is %v", line, l)
			}
			if n := Underline(line); n != 0 {
				t.Errorf("Underline(%q) is %d", line, n)
			}
			if _, n, _ := Marker(line); n != 0 {
				t.Errorf("Marker(%q) has %d bytes", line, n)
			}
			if Closes(line, s[0], 1) {
				t.Errorf("Closes(%q) holds", line)
			}
		}
	}
}

// TestLong goes over lines that are far longer than a document's.
func TestLong(t *testing.T) {
	const size = 1 << 20
	many := func(s string) string { return strings.Repeat(s, size) }
	if !Rule(many("- ")) || Rule(many("- ")+"a") || Rule("--"+many(" ")) {
		t.Error("Rule")
	}
	if Underline(many("=")+many(" ")) != 1 || Underline(many("-")+"=") != 0 {
		t.Error("Underline")
	}
	if n, _ := Heading(many("#")); n != 0 {
		t.Error("Heading of signs")
	}
	if n, text := Heading("#" + many(" ") + "a" + many(" ") + many("#") + many("\t")); n != 1 || text != "a" {
		t.Error("Heading")
	}
	if _, n, info := Fence(many("`") + many("a")); n != size || info != many("a") {
		t.Error("Fence")
	}
	if !Closes(many("~"), '~', size) || Closes(many("~"), '~', size+1) {
		t.Error("Closes")
	}
	if HTML("<"+many("a")+">") != 7 || HTML("<"+many("a")) != 0 || HTML("<a"+many(" b")+">"+many(" ")) != 7 || HTML(many("<")) != 0 {
		t.Error("HTML")
	}
	if Ends(1, many("</pre")) || !Ends(1, many("</pre")+">") || !Ends(5, many("]")+">") {
		t.Error("Ends")
	}
	if _, n, _ := Marker(many("1") + "."); n != 0 {
		t.Error("Marker")
	}
}
