package cursor

import "testing"

// place is all that a cursor tells of where it is.
type place struct {
	column, indent int
	blank          bool
	next           byte
	rest, behind   string
}

func placeOf(c *Cursor) place {
	return place{c.Column(), c.Indent(), c.Blank(), c.Next(), c.Rest(), c.Behind()}
}

func TestNew(t *testing.T) {
	cases := []struct {
		line string
		want place
	}{
		{"", place{blank: true}},
		{"a", place{next: 'a', rest: "a", behind: "a"}},
		{"a\t b ", place{next: 'a', rest: "a\t b ", behind: "a\t b "}},
		{" ", place{indent: 1, blank: true, rest: " "}},
		{"\t", place{indent: 4, blank: true, rest: "\t"}},
		{"\ta", place{indent: 4, next: 'a', rest: "\ta", behind: "a"}},
		{" \ta", place{indent: 4, next: 'a', rest: " \ta", behind: "a"}},
		{"   \ta", place{indent: 4, next: 'a', rest: "   \ta", behind: "a"}},
		{"    \ta", place{indent: 8, next: 'a', rest: "    \ta", behind: "a"}},
		{"\t a", place{indent: 5, next: 'a', rest: "\t a", behind: "a"}},
		{"\t\t", place{indent: 8, blank: true, rest: "\t\t"}},
		{" \t \t ", place{indent: 9, blank: true, rest: " \t \t "}},
		{"  \x00", place{indent: 2, next: 0, rest: "  \x00", behind: "\x00"}},
		{" \xff", place{indent: 1, next: 0xff, rest: " \xff", behind: "\xff"}},
		{" \u00a0a", place{indent: 1, next: 0xc2, rest: " \u00a0a", behind: "\u00a0a"}},
	}
	for _, c := range cases {
		if got := placeOf(New(c.line)); got != c.want {
			t.Errorf("New(%q) is at %+v, not %+v", c.line, got, c.want)
		}
	}
}

// TestOtherBytes: blanks and tabs alone are passed as such; all else, also
// what ends lines or is a space elsewhere, is what follows them.
func TestOtherBytes(t *testing.T) {
	for i := 0; i < 256; i++ {
		b := byte(i)
		if b == ' ' || b == '\t' {
			continue
		}
		text := string([]byte{b})
		c := New(" " + text + "z")
		want := place{indent: 1, next: b, rest: " " + text + "z", behind: text + "z"}
		if got := placeOf(c); got != want {
			t.Errorf("ahead of the byte %d: %+v, not %+v", i, got, want)
		}
		if n := c.Skip(9); n != 1 {
			t.Errorf("Skip ahead of the byte %d passed %d columns", i, n)
		}
		c.Move(1)
		want = place{column: 2, next: 'z', rest: "z", behind: "z"}
		if got := placeOf(c); got != want {
			t.Errorf("behind the byte %d: %+v, not %+v", i, got, want)
		}
	}
}

func TestExampleOfATab(t *testing.T) {
	c := New("\ta")
	if n := c.Indent(); n != 4 {
		t.Errorf("Indent %d", n)
	}
	if n := c.Skip(2); n != 2 {
		t.Errorf("Skip %d", n)
	}
	want := place{column: 2, indent: 2, next: 'a', rest: "  a", behind: "a"}
	if got := placeOf(c); got != want {
		t.Errorf("%+v, not %+v", got, want)
	}
}

func TestExampleOfAnItem(t *testing.T) {
	c := New("- \tx")
	c.Move(1)
	if c.Column() != 1 || c.Indent() != 3 {
		t.Errorf("behind Move: %+v", placeOf(c))
	}
	if n := c.Skip(1); n != 1 || c.Indent() != 2 || c.Rest() != "\tx" {
		t.Errorf("behind Skip of %d: %+v", n, placeOf(c))
	}
	if n := c.Skip(1); n != 1 || c.Rest() != " x" {
		t.Errorf("behind the second Skip of %d: %+v", n, placeOf(c))
	}
}

const (
	most  = int(^uint(0) >> 1)
	least = -most - 1
)

func TestSkip(t *testing.T) {
	cases := []struct {
		line string
		n    int
		told int
		want place
	}{
		{"", 1, 0, place{blank: true}},
		{"", most, 0, place{blank: true}},
		{"a", 3, 0, place{next: 'a', rest: "a", behind: "a"}},
		{" a", 0, 0, place{indent: 1, next: 'a', rest: " a", behind: "a"}},
		{" a", -1, 0, place{indent: 1, next: 'a', rest: " a", behind: "a"}},
		{"\ta", 0, 0, place{indent: 4, next: 'a', rest: "\ta", behind: "a"}},
		{"\ta", least, 0, place{indent: 4, next: 'a', rest: "\ta", behind: "a"}},
		{"\ta", 1, 1, place{column: 1, indent: 3, next: 'a', rest: "   a", behind: "a"}},
		{"\ta", 3, 3, place{column: 3, indent: 1, next: 'a', rest: " a", behind: "a"}},
		{"\ta", 4, 4, place{column: 4, next: 'a', rest: "a", behind: "a"}},
		{"\ta", 5, 4, place{column: 4, next: 'a', rest: "a", behind: "a"}},
		{"\ta b", most, 4, place{column: 4, next: 'a', rest: "a b", behind: "a b"}},
		{"\t\ta", 4, 4, place{column: 4, indent: 4, next: 'a', rest: "\ta", behind: "a"}},
		{"\t\ta", 5, 5, place{column: 5, indent: 3, next: 'a', rest: "   a", behind: "a"}},
		{"\t\t", 6, 6, place{column: 6, indent: 2, blank: true, rest: "  "}},
		{"  \t a", 2, 2, place{column: 2, indent: 3, next: 'a', rest: "\t a", behind: "a"}},
		{"  \t a", 3, 3, place{column: 3, indent: 2, next: 'a', rest: "  a", behind: "a"}},
		{"  \t\ta", 3, 3, place{column: 3, indent: 5, next: 'a', rest: " \ta", behind: "a"}},
		{"   ", 2, 2, place{column: 2, indent: 1, blank: true, rest: " "}},
		{"   ", 3, 3, place{column: 3, blank: true}},
		{"   ", 4, 3, place{column: 3, blank: true}},
	}
	for _, c := range cases {
		cursor := New(c.line)
		told := cursor.Skip(c.n)
		if got := placeOf(cursor); told != c.told || got != c.want {
			t.Errorf("Skip(%d) of %q told %d and is at %+v, not %d, %+v", c.n, c.line, told, got, c.told, c.want)
		}
	}
}

func TestMove(t *testing.T) {
	cases := []struct {
		line    string
		skip, n int
		want    place
	}{
		{"", 0, 0, place{blank: true}},
		{"", 0, 7, place{blank: true}},
		{"ab", 0, 0, place{next: 'a', rest: "ab", behind: "ab"}},
		{"ab", 0, -3, place{next: 'a', rest: "ab", behind: "ab"}},
		{"ab", 0, 1, place{column: 1, next: 'b', rest: "b", behind: "b"}},
		{"ab", 0, 2, place{column: 2, blank: true}},
		{"ab", 0, 3, place{column: 2, blank: true}},
		{"ab", 0, most, place{column: 2, blank: true}},
		{" ab", 0, 0, place{column: 1, next: 'a', rest: "ab", behind: "ab"}},
		{" ab", 0, least, place{column: 1, next: 'a', rest: "ab", behind: "ab"}},
		{"\tab", 0, 1, place{column: 5, next: 'b', rest: "b", behind: "b"}},
		{"\tab", 2, 0, place{column: 4, next: 'a', rest: "ab", behind: "ab"}},
		{"\tab", 2, 1, place{column: 5, next: 'b', rest: "b", behind: "b"}},
		{"\t", 1, 1, place{column: 4, blank: true}},
		{" \t ", 0, 0, place{column: 5, blank: true}},
		{"a b", 0, 2, place{column: 2, next: 'b', rest: "b", behind: "b"}},
		{"a\tb", 0, 1, place{column: 1, indent: 3, next: 'b', rest: "\tb", behind: "b"}},
		{"a\tb", 0, 2, place{column: 4, next: 'b', rest: "b", behind: "b"}},
		{"a\t\tb", 0, 2, place{column: 4, indent: 4, next: 'b', rest: "\tb", behind: "b"}},
		{"\u00e4b", 0, 1, place{column: 1, next: 0xa4, rest: "\xa4b", behind: "\xa4b"}},
		{"\u00e4b", 0, 2, place{column: 2, next: 'b', rest: "b", behind: "b"}},
	}
	for _, c := range cases {
		cursor := New(c.line)
		cursor.Skip(c.skip)
		cursor.Move(c.n)
		if got := placeOf(cursor); got != c.want {
			t.Errorf("%q, Skip(%d), Move(%d): %+v, not %+v", c.line, c.skip, c.n, got, c.want)
		}
	}
}

// TestApart: two cursors of one line go their own ways.
func TestApart(t *testing.T) {
	a, b := New("\tx"), New("\tx")
	a.Skip(3)
	b.Move(1)
	if a.Column() != 3 || b.Column() != 5 {
		t.Errorf("columns %d and %d, not 3 and 5", a.Column(), b.Column())
	}
	if c := New("\tx"); c.Column() != 0 || c.Rest() != "\tx" {
		t.Errorf("a new one is at %+v", placeOf(c))
	}
}
