package escape

import (
	"html"
	"regexp"
	"strconv"
	"strings"
	"testing"
	"unicode/utf8"
)

// table is B2's, as the chapter writes it: a name and its characters' numbers of base sixteen.
const table = "amp 26, lt 3C, gt 3E, quot 22, apos 27, nbsp A0, copy A9, reg AE, sect A7, para B6, middot B7, " +
	"frac12 BD, frac34 BE, times D7, divide F7, " +
	"auml E4, Auml C4, ouml F6, Ouml D6, uuml FC, Uuml DC, szlig DF, eacute E9, egrave E8, agrave E0, " +
	"ccedil E7, ntilde F1, AElig C6, aelig E6, Dcaron 10E, " +
	"hellip 2026, ndash 2013, mdash 2014, lsquo 2018, rsquo 2019, ldquo 201C, rdquo 201D, bull 2022, " +
	"euro 20AC, trade 2122, larr 2190, rarr 2192, HilbertSpace 210B, DifferentialD 2146, " +
	"ngE 2267 338, nvlt 3C 20D2"

// names are the table's, each with what it stands for.
func names(t *testing.T) map[string]string {
	m := map[string]string{}
	for _, row := range strings.Split(table, ", ") {
		words := strings.Fields(row)
		for _, w := range words[1:] {
			n, err := strconv.ParseInt(w, 16, 32)
			if err != nil {
				t.Fatal(err)
			}
			m[words[0]] += string(rune(n))
		}
	}
	if len(m) != 46 {
		t.Fatalf("the table has %d names", len(m))
	}
	return m
}

func TestEntityCases(t *testing.T) {
	cases := []struct {
		text, want string
		size       int
	}{
		{"", "", 0},
		{"a", "", 0},
		{"&", "", 0},
		{"&;", "", 0},
		{"&#", "", 0},
		{"&#;", "", 0},
		{"&#x", "", 0},
		{"&#x;", "", 0},
		{"&#X;", "", 0},
		{"&#35;x", "#", 5},
		{"&#X22;", "\"", 6},
		{"&#x22;", "\"", 6},
		{"&#0;", "\ufffd", 4},
		{"&#x0;", "\ufffd", 5},
		{"&#0000000;", "\ufffd", 10},
		{"&#x000000;", "\ufffd", 10},
		{"&#00000000;", "", 0},
		{"&#x0000000;", "", 0},
		{"&#12345678;", "", 0},
		{"&#1234567;", "\ufffd", 10},
		{"&#9999999;", "\ufffd", 10},
		{"&#xffffff;", "\ufffd", 10},
		{"&#0000035;", "#", 10},
		{"&#x000041;", "A", 10},
		{"&#x0000041;", "", 0},
		{"&#1;", "\x01", 4},
		{"&#9;", "\t", 4},
		{"&#10;", "\n", 5},
		{"&#127;", "\x7f", 6},
		{"&#128;", "\u0080", 6},
		{"&#xd7ff;", "\ud7ff", 8},
		{"&#xd800;", "\ufffd", 8},
		{"&#xDfFf;", "\ufffd", 8},
		{"&#xe000;", "\ue000", 8},
		{"&#55295;", "\ud7ff", 8},
		{"&#55296;", "\ufffd", 8},
		{"&#57343;", "\ufffd", 8},
		{"&#57344;", "\ue000", 8},
		{"&#xfffd;", "\ufffd", 8},
		{"&#xfffe;", "\ufffe", 8},
		{"&#xffff;", "\uffff", 8},
		{"&#x10ffff;", "\U0010ffff", 10},
		{"&#x10FFFF;", "\U0010ffff", 10},
		{"&#x110000;", "\ufffd", 10},
		{"&#1114111;", "\U0010ffff", 10},
		{"&#1114112;", "\ufffd", 10},
		{"&#3a;", "", 0},
		{"&#a;", "", 0},
		{"&#x1g;", "", 0},
		{"&#x1G;", "", 0},
		{"&#xx1;", "", 0},
		{"&#-1;", "", 0},
		{"&#+1;", "", 0},
		{"&#x-1;", "", 0},
		{"&# 1;", "", 0},
		{"&#1 ;", "", 0},
		{"&#35", "", 0},
		{"&#35x;", "", 0},
		{"&#x35", "", 0},
		{"&nbsp", "", 0},
		{"&x;", "", 0},
		{"&amp;", "&", 5},
		{"&amp;amp;", "&", 5},
		{"&amp;;", "&", 5},
		{"&AMP;", "", 0},
		{"&Amp;", "", 0},
		{"&am;", "", 0},
		{"&ampx;", "", 0},
		{"& amp;", "", 0},
		{"&amp ;", "", 0},
		{"&&amp;", "", 0},
		{"a&amp;", "", 0},
		{"\\&amp;", "", 0},
		{"&frac12;", "\u00bd", 8},
		{"&frac1;", "", 0},
		{"&frac14;", "", 0},
		{"&ngE;", "\u2267\u0338", 5},
		{"&nge;", "", 0},
		{"&nvlt;x", "<\u20d2", 6},
		{"&HilbertSpace;", "\u210b", 14},
		{"&DifferentialD;", "\u2146", 15},
		{"&Differentiald;", "", 0},
		{"&\u00e4uml;", "", 0},
		{"&auml\xff;", "", 0},
		{"&amp\x00;", "", 0},
		{"&ClockwiseContourIntegral;", "", 0},
	}
	for _, c := range cases {
		if got, size := Entity(c.text); got != c.want || size != c.size {
			t.Errorf("Entity(%q) is %q, %d, not %q, %d", c.text, got, size, c.want, c.size)
		}
	}
}

func TestEntityEveryName(t *testing.T) {
	for name, want := range names(t) {
		text := "&" + name + ";"
		for _, rest := range []string{"", ";", "x", "&amp;"} {
			if got, size := Entity(text + rest); got != want || size != len(text) {
				t.Errorf("Entity(%q) is %q, %d, not %q, %d", text+rest, got, size, want, len(text))
			}
		}
		// The library's table is wider, but tells the same of each name.
		if known := html.UnescapeString(text); known != want {
			t.Errorf("%q stands for %q, not %q", text, known, want)
		}
		for _, wrong := range []string{"&" + name, name + ";", "& " + name + ";", "&" + name + " ;", "&#" + name + ";", "&" + name + "q;"} {
			if got, size := Entity(wrong); got != "" || size != 0 {
				t.Errorf("Entity(%q) is %q, %d", wrong, got, size)
			}
		}
	}
}

// nearNames are names with one byte left out, changed or of the other case.
func nearNames(name string) []string {
	var l []string
	for i := range name {
		l = append(l, name[:i]+name[i+1:], name[:i]+"z"+name[i+1:], name[:i]+string(name[i]^0x20)+name[i+1:], name[:i]+"0"+name[i:])
	}
	return l
}

func TestEntityNearNames(t *testing.T) {
	known := names(t)
	for name := range known {
		for _, near := range nearNames(name) {
			text := "&" + near + ";"
			want, size := known[near], 0
			if want != "" {
				size = len(text)
			}
			if got, n := Entity(text); got != want || n != size {
				t.Errorf("Entity(%q) is %q, %d, not %q, %d", text, got, n, want, size)
			}
		}
	}
}

func wantCharacter(n int64) string {
	if n == 0 || n >= 0xd800 && n <= 0xdfff || n > 0x10ffff {
		return "\ufffd"
	}
	return string(rune(n))
}

func TestEntityEveryNumber(t *testing.T) {
	for n := int64(0); n <= 0x110010; n++ {
		want := wantCharacter(n)
		ten := "&#" + strconv.FormatInt(n, 10) + ";"
		if got, size := Entity(ten); got != want || size != len(ten) {
			t.Fatalf("Entity(%q) is %q, %d, not %q", ten, got, size, want)
		}
		small := "&#x" + strconv.FormatInt(n, 16) + ";"
		if got, size := Entity(small); got != want || size != len(small) {
			t.Fatalf("Entity(%q) is %q, %d, not %q", small, got, size, want)
		}
		great := "&#X" + strings.ToUpper(strconv.FormatInt(n, 16)) + ";"
		if got, size := Entity(great); got != want || size != len(great) {
			t.Fatalf("Entity(%q) is %q, %d, not %q", great, got, size, want)
		}
	}
}

// reader tells references by patterns instead of by a walk.
type reader struct {
	ten, sixteen, name *regexp.Regexp
	known              map[string]string
}

func newReader(t *testing.T) *reader {
	return &reader{
		regexp.MustCompile(`^&#([0-9]{1,7});`),
		regexp.MustCompile(`^&#[xX]([0-9a-fA-F]{1,6});`),
		regexp.MustCompile(`^&([^;]*);`),
		names(t),
	}
}

func (r *reader) entity(s string) (string, int) {
	if m := r.ten.FindStringSubmatch(s); m != nil {
		n, _ := strconv.ParseInt(m[1], 10, 64)
		return wantCharacter(n), len(m[0])
	}
	if m := r.sixteen.FindStringSubmatch(s); m != nil {
		n, _ := strconv.ParseInt(m[1], 16, 64)
		return wantCharacter(n), len(m[0])
	}
	if m := r.name.FindStringSubmatch(s); m != nil && r.known[m[1]] != "" {
		return r.known[m[1]], len(m[0])
	}
	return "", 0
}

func TestEntityShortTexts(t *testing.T) {
	r := newReader(t)
	pieces := []string{"&", "#", "x", "X", ";", "0", "9", "a", "F", "g", "lt", " ", "\\", "\u00e4"}
	eachText(pieces, 5, func(s string) {
		want, size := r.entity(s)
		if got, n := Entity(s); got != want || n != size {
			t.Fatalf("Entity(%q) is %q, %d, not %q, %d", s, got, n, want, size)
		}
		if got, _ := Entity(s); !utf8.ValidString(got) {
			t.Fatalf("Entity(%q) is %q", s, got)
		}
	})
}
