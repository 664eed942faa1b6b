package runes

import (
	"slices"
	"strings"
	"testing"
)

func TestLinesCases(t *testing.T) {
	cases := []struct {
		text string
		want []string
	}{
		{"", nil},
		{"a", []string{"a"}},
		{"a\nb", []string{"a", "b"}},
		{"a\rb", []string{"a", "b"}},
		{"a\r\nb", []string{"a", "b"}},
		{"a\n", []string{"a"}},
		{"a\r", []string{"a"}},
		{"a\r\n", []string{"a"}},
		{"\n", []string{""}},
		{"\r", []string{""}},
		{"\r\n", []string{""}},
		{"\n\r", []string{"", ""}},
		{"\r\r\n", []string{"", ""}},
		{"\r\n\r\n", []string{"", ""}},
		{"\r\n\n\r", []string{"", "", ""}},
		{"a\r\nb\n\nc\r", []string{"a", "b", "", "c"}},
		{" a \n\n \n", []string{" a ", "", " "}},
		{"a\vb\fc\u0085d\u2028e\u2029f", []string{"a\vb\fc\u0085d\u2028e\u2029f"}},
		{"ä€\n😀", []string{"ä€", "😀"}},
		{"\xff\x00\r\n\xc3\n\xa4", []string{"\xff\x00", "\xc3", "\xa4"}},
	}
	for _, c := range cases {
		if got := Lines(c.text); !slices.Equal(got, c.want) {
			t.Errorf("Lines(%q) is %q, not %q", c.text, got, c.want)
		}
	}
}

// TestLinesShortTexts holds Lines against another way to the same: all ends made line feeds, then cut at these.
func TestLinesShortTexts(t *testing.T) {
	texts := []string{""}
	for range 7 {
		var longer []string
		for _, s := range texts {
			checkLines(t, s)
			for _, c := range []string{"a", "\n", "\r", "\xff"} {
				longer = append(longer, s+c)
			}
		}
		texts = longer
	}
}

func checkLines(t *testing.T, s string) {
	feeds := strings.ReplaceAll(strings.ReplaceAll(s, "\r\n", "\n"), "\r", "\n")
	want := strings.Split(feeds, "\n")
	if want[len(want)-1] == "" {
		want = want[:len(want)-1]
	}
	if got := Lines(s); !slices.Equal(got, want) {
		t.Fatalf("Lines(%q) is %q, not %q", s, got, want)
	}
}

func TestLinesAreTheCallers(t *testing.T) {
	const text = "a\nb\n"
	first := Lines(text)
	first[0] = "x"
	first = append(first[:1], "y", "z")
	if got := Lines(text); !slices.Equal(got, []string{"a", "b"}) {
		t.Errorf("behind a write to an answer %q Lines tells %q", first, got)
	}
}
