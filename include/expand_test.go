package include

import (
	"fmt"
	"slices"
	"testing"

	"scriptorium/api"
)

func page(tenant, doc string, version int, text string) api.Page {
	return api.Page{Ref: ref(tenant, doc, version), Text: text}
}

// xy are pages of the tenant a that hold x, y, and no others.
func xy(x, y string) []api.Page { return []api.Page{page("a", "x", 1, x), page("a", "y", 1, y)} }

// short is a value as a fault tells it: long texts would hide what is wrong.
func short(v any) string {
	s := fmt.Sprintf("%#v", v)
	if len(s) > 1000 {
		s = s[:1000] + ".. (" + fmt.Sprint(len(s)) + " bytes)"
	}
	return s
}

func check(t *testing.T, pages []api.Page, may []string, at api.Ref, want string, refs ...api.Ref) {
	t.Helper()
	s, l, e := Expand(pages, may, at)
	if e != api.OK || s != want || !slices.Equal(l, refs) {
		t.Errorf("Expand(%s, %v, %v) is\n%s, %v, %v, not\n%s, %v", short(pages), may, at, short(s), l, e, short(want), refs)
	}
}

// checkError: an error, and nothing beside it.
func checkError(t *testing.T, pages []api.Page, may []string, at api.Ref, want api.Errno) {
	t.Helper()
	if s, l, e := Expand(pages, may, at); e != want || s != "" || len(l) != 0 {
		t.Errorf("Expand(%s, %v, %v) is %s, %v, %v, not %v", short(pages), may, at, short(s), l, e, want)
	}
}

var (
	onlyA = []string{"a"}
	atX   = ref("a", "x", 0)
)

// TestExamples are those of the chapter.
func TestExamples(t *testing.T) {
	l := []api.Page{page("a", "x", 1, "1\n{{include a/y}}\n2"), page("a", "y", 1, "old"), page("a", "y", 2, "new")}
	check(t, l, onlyA, atX, "1\nnew\n2\n", ref("a", "y", 2))
	l[2].Text = " {{include a/x@1}}"
	checkError(t, l, onlyA, atX, api.ErrCycle)
	checkError(t, xy("{{include b/z}}", ""), onlyA, atX, api.ErrDeny)
	checkError(t, xy("{{include a/q}}", ""), onlyA, atX, api.ErrNone)
	check(t, xy("{{include a/y@03}}\n{{include a/y }}", "y"), onlyA, atX, "{{include a/y@03}}\n{{include a/y }}\n")
}

func TestNothing(t *testing.T) {
	checkError(t, nil, nil, api.Ref{}, api.ErrDeny)
	checkError(t, nil, nil, atX, api.ErrDeny)
	checkError(t, nil, onlyA, atX, api.ErrNone)
	checkError(t, []api.Page{}, []string{}, atX, api.ErrDeny)
	checkError(t, nil, []string{""}, api.Ref{}, api.ErrNone)
	check(t, xy("", ""), onlyA, atX, "")
	check(t, xy("{{include a/y}}", ""), onlyA, atX, "", ref("a", "y", 1))
}

// TestAsItIs: a document that includes nothing.
func TestAsItIs(t *testing.T) {
	for text, want := range map[string]string{
		"":                          "",
		"a":                         "a\n",
		"a\n":                       "a\n",
		"a\r":                       "a\n",
		"a\r\n":                     "a\n",
		"a\n\r":                     "a\n\n",
		"\n":                        "\n",
		"\r\r\n\n":                  "\n\n\n",
		"a\nb":                      "a\nb\n",
		"a\rb\r\nc\n\nd":            "a\nb\nc\n\nd\n",
		" a \n\tb\t":                " a \n\tb\t\n",
		"ä\u2028b\u0085c\vd\fe":     "ä\u2028b\u0085c\vd\fe\n",
		"a\x00b":                    "a\ufffdb\n",
		"\xff\xfe\n\xe4\xc3\xa4":    "\ufffd\ufffd\n\ufffdä\n",
		"\xed\xa0\x80":              "\ufffd\ufffd\ufffd\n",
		"# a\n\n```\n{{x}}\n```":    "# a\n\n```\n{{x}}\n```\n",
		"x {{include a/y}}":         "x {{include a/y}}\n",
		"{{include a/y}}\x00":       "{{include a/y}}\ufffd\n",
		"{{include a/y}}\u2028":     "{{include a/y}}\u2028\n",
		"{{include a/\xff}}":        "{{include a/\ufffd}}\n",
		"{{include a/y@0}}":         "{{include a/y@0}}\n",
		"{{include\na/y}}":          "{{include\na/y}}\n",
		"{{include a/y@1000000}}":   "{{include a/y@1000000}}\n",
		" \t{{include a/Y}} \t\r\n": " \t{{include a/Y}} \t\n",
	} {
		check(t, xy(text, "y"), onlyA, atX, want)
		check(t, xy(text, "y"), onlyA, ref("a", "x", 1), want)
		check(t, xy("{{include a/y}}", text), onlyA, atX, want, ref("a", "y", 1))
		check(t, xy("1\r{{include a/y}}\r\n2", text), onlyA, atX, "1\n"+want+"2\n", ref("a", "y", 1))
	}
}

// TestDirectives: where a directive stands in a text, and what is around it, does not matter.
func TestDirectives(t *testing.T) {
	for text, want := range map[string]string{
		"{{include a/y}}":                       "Y\n\n",
		"{{include a/y}}\n":                     "Y\n\n",
		"{{include a/y}}\r\n":                   "Y\n\n",
		"{{include a/y}}\r":                     "Y\n\n",
		"\n{{include a/y}}\n\n":                 "\nY\n\n\n",
		"1\r{{include a/y}}\r2":                 "1\nY\n\n2\n",
		"1\r\n{{include a/y}}\r\n2":             "1\nY\n\n2\n",
		" \t {{include a/y@1}}\t":               "Y\n\n",
		"    {{include a/y}}":                   "Y\n\n",
		"```\n{{include a/y}}\n```":             "```\nY\n\n```\n",
		"<!--\n{{include a/y}}\n-->":            "<!--\nY\n\n-->\n",
		"{{include a/y}}\n{{include a/y@1}}\n.": "Y\n\nY\n\n.\n",
	} {
		check(t, xy(text, "Y\n\n"), onlyA, atX, want, ref("a", "y", 1))
	}
}

// TestIncludedNotScannedAgain: lines of several pages are not put together to a directive.
func TestIncludedNotScannedAgain(t *testing.T) {
	l := []api.Page{page("a", "x", 1, "{{include a/y}}\na/z}}"), page("a", "y", 1, "{{include "), page("a", "z", 1, "z")}
	check(t, l, onlyA, atX, "{{include \na/z}}\n", ref("a", "y", 1))
}

func TestLatest(t *testing.T) {
	l := []api.Page{
		page("a", "y", 3, "three"), page("b", "y", 99, "of b"), page("a", "y", 10, "ten"), page("a", "z", 98, "z"), page("a", "y", 9, "nine"),
		page("a", "x", 1, "{{include a/y}}"), page("a", "x", 2, "{{include a/y@9}}"), page("a", "x", 3, "{{include a/y@10}}\n{{include a/y}}"), page("a", "x", 4, "{{include a/y@4}}"),
	}
	check(t, l, onlyA, ref("a", "y", 0), "ten\n")
	check(t, l, onlyA, ref("a", "y", 3), "three\n")
	check(t, l, onlyA, ref("a", "x", 1), "ten\n", ref("a", "y", 10))
	check(t, l, onlyA, ref("a", "x", 2), "nine\n", ref("a", "y", 9))
	check(t, l, onlyA, ref("a", "x", 3), "ten\nten\n", ref("a", "y", 10))
	checkError(t, l, onlyA, ref("a", "x", 4), api.ErrNone)
	checkError(t, l, onlyA, atX, api.ErrNone)
	slices.Reverse(l)
	check(t, l, onlyA, ref("a", "x", 1), "ten\n", ref("a", "y", 10))
}

// TestVersionsBelowOne: pages may have them, though no directive names one.
func TestVersionsBelowOne(t *testing.T) {
	l := []api.Page{page("a", "x", -3, "-3"), page("a", "x", -1, "-1"), page("a", "x", -2, "-2"), page("a", "y", 1, "{{include a/x}}")}
	check(t, l, onlyA, atX, "-1\n")
	check(t, l, onlyA, ref("a", "x", -2), "-2\n")
	check(t, l, onlyA, ref("a", "y", 1), "-1\n", ref("a", "x", -1))
	checkError(t, l, onlyA, ref("a", "x", -4), api.ErrNone)
	checkError(t, l, onlyA, ref("a", "y", -1), api.ErrNone)
	l[0].Ref.Version = 0
	check(t, l, onlyA, atX, "-3\n")
	check(t, l, onlyA, ref("a", "y", 1), "-3\n", ref("a", "x", 0))
	l[0].Text = "{{include a/x}}"
	checkError(t, l, onlyA, atX, api.ErrCycle)
	check(t, []api.Page{page("a", "x", 1<<31-1, "1")}, onlyA, atX, "1\n")
}

// TestFirstPageCounts: of several pages of one Ref.
func TestFirstPageCounts(t *testing.T) {
	l := []api.Page{
		page("a", "y", 2, "y"), page("a", "y", 1, "1"), page("a", "y", 2, "late"), page("a", "y", 1, "late"),
		page("a", "x", 1, "{{include a/y}}\n{{include a/y@1}}"), page("a", "x", 1, "late"), page("a", "y", 2, "later"),
	}
	check(t, l, onlyA, atX, "y\n1\n", ref("a", "y", 2), ref("a", "y", 1))
	check(t, l, onlyA, ref("a", "x", 1), "y\n1\n", ref("a", "y", 2), ref("a", "y", 1))
	check(t, l, onlyA, ref("a", "y", 0), "y\n")
	check(t, l, onlyA, ref("a", "y", 2), "y\n")
	l[0].Text = "{{include a/y@2}}"
	checkError(t, l, onlyA, ref("a", "y", 0), api.ErrCycle)
}

func TestTenants(t *testing.T) {
	l := []api.Page{
		page("a", "x", 1, "{{include b/x}}\n{{include a/y}}"), page("b", "x", 2, "{{include c/x}}\nb"), page("c", "x", 3, "c"), page("a", "y", 4, "{{include c/x@3}}"),
	}
	refs := []api.Ref{ref("b", "x", 2), ref("c", "x", 3), ref("a", "y", 4)}
	check(t, l, []string{"a", "b", "c"}, atX, "c\nb\nc\n", refs...)
	check(t, l, []string{"c", "q", "b", "a", "a", "c", "", "b/x"}, atX, "c\nb\nc\n", refs...)
	check(t, l, []string{"c", "b"}, ref("b", "x", 0), "c\nb\n", refs[1])
	for _, may := range [][]string{nil, {}, {"a"}, {"b"}, {"c"}, {"a", "b"}, {"a", "c"}, {"b", "c"}, {"A", "B", "C"}, {"", "abc", "a/x", "a,b,c", "a b c"}} {
		checkError(t, l, may, atX, api.ErrDeny)
	}
}

// TestTexts: at, may and pages are held against each other as they are, names or not.
func TestTexts(t *testing.T) {
	for _, s := range []string{"", "A", "a/b", " ", "ä", "\xff", "0", many("a", 17)} {
		l := []api.Page{page(s, s, 1, "1\n{{include a/y}}"), page("a", "y", 1, "y")}
		check(t, l, []string{s, "a"}, ref(s, s, 0), "1\ny\n", ref("a", "y", 1))
		check(t, l, []string{"a", s}, ref(s, s, 1), "1\ny\n", ref("a", "y", 1))
		checkError(t, l, []string{"a"}, ref(s, s, 0), api.ErrDeny)
		checkError(t, l, []string{"a", s}, ref(s, s+"q", 0), api.ErrNone)
		checkError(t, l, []string{"a", s, s + "q"}, ref(s+"q", s, 0), api.ErrNone)
	}
}

// TestCycle: the chain alone counts, and each version for itself.
func TestCycle(t *testing.T) {
	checkError(t, xy("{{include a/x}}", ""), onlyA, atX, api.ErrCycle)
	checkError(t, xy("{{include a/x@1}}", ""), onlyA, ref("a", "x", 1), api.ErrCycle)
	checkError(t, xy("1\n{{include a/y}}", "2\n{{include a/x@1}}"), onlyA, atX, api.ErrCycle)
	checkError(t, xy("1\n{{include a/y}}", "2\n{{include a/y}}"), onlyA, atX, api.ErrCycle)
	l := []api.Page{page("a", "x", 1, "1\n{{include a/x@2}}\n1"), page("a", "x", 2, "2\n{{include a/x}}\n2"), page("a", "x", 3, "3")}
	check(t, l, onlyA, ref("a", "x", 1), "1\n2\n3\n2\n1\n", ref("a", "x", 2), ref("a", "x", 3))
	l[2].Text = "{{include a/x@1}}"
	checkError(t, l, onlyA, ref("a", "x", 1), api.ErrCycle)
	checkError(t, l, onlyA, ref("a", "x", 2), api.ErrCycle)
	checkError(t, l, onlyA, atX, api.ErrCycle)
	l[2].Text = "{{include b/x@1}}"
	l = append(l, page("b", "x", 1, "b"), page("a", "y", 1, "y"))
	check(t, l, []string{"a", "b"}, ref("a", "x", 1), "1\n2\nb\n2\n1\n", ref("a", "x", 2), ref("a", "x", 3), ref("b", "x", 1))
	l[2].Text = "{{include a/y@1}}"
	check(t, l, onlyA, ref("a", "x", 1), "1\n2\ny\n2\n1\n", ref("a", "x", 2), ref("a", "x", 3), ref("a", "y", 1))
}

// TestMetFirst: Refs are told in the order in which they were met first, one ahead of those in it, each once; at is none of them.
func TestMetFirst(t *testing.T) {
	l := []api.Page{
		page("a", "x", 1, "{{include a/z}}\n-\n{{include a/y}}\n{{include a/w}}\n{{include a/y}}\n{{include a/z@1}}"),
		page("a", "y", 1, "y\n{{include a/w}}\n{{include a/v}}"),
		page("a", "z", 1, "old\n{{include a/w@1}}"),
		page("a", "z", 2, "z\n{{include a/w}}"),
		page("a", "w", 1, "w"),
		page("a", "v", 7, ""),
	}
	check(t, l, onlyA, atX, "z\nw\n-\ny\nw\nw\ny\nw\nold\nw\n", ref("a", "z", 2), ref("a", "w", 1), ref("a", "y", 1), ref("a", "v", 7), ref("a", "z", 1))
	slices.Reverse(l)
	check(t, l, onlyA, atX, "z\nw\n-\ny\nw\nw\ny\nw\nold\nw\n", ref("a", "z", 2), ref("a", "w", 1), ref("a", "y", 1), ref("a", "v", 7), ref("a", "z", 1))
}

// TestChainIsOneOfItsOwn: what a document took in is not in the chain of what stands behind it.
func TestChainIsOneOfItsOwn(t *testing.T) {
	l := []api.Page{
		page("a", "x", 1, "{{include a/p}}\n{{include a/q}}\n{{include a/p}}"),
		page("a", "p", 1, "{{include a/r}}\np\n{{include a/s}}"),
		page("a", "q", 1, "{{include a/p}}\nq\n{{include a/r}}\n{{include a/s}}"),
		page("a", "r", 1, "{{include a/s}}\nr"),
		page("a", "s", 1, "s"),
	}
	p := "s\nr\np\ns\n"
	check(t, l, onlyA, atX, p+p+"q\ns\nr\ns\n"+p, ref("a", "p", 1), ref("a", "r", 1), ref("a", "s", 1), ref("a", "q", 1))
	l[4].Text = "{{include a/q}}"
	checkError(t, l, onlyA, atX, api.ErrCycle)
}

// TestHandedInStays: neither the pages nor the tenants are written to, also where there is room behind them.
func TestHandedInStays(t *testing.T) {
	l := append(make([]api.Page, 0, 10), page("a", "x", 1, "1\r{{include b/y}}\x00\n{{include b/y}}"), page("b", "y", 2, "\xff"), page("b", "y", 1, "old"))
	may := append(make([]string, 0, 10), "b", "a")
	was, mayWas := slices.Clone(l[:10]), slices.Clone(may[:10])
	for range 3 {
		check(t, l, may, atX, "1\n{{include b/y}}\ufffd\n\ufffd\n", ref("b", "y", 2))
		checkError(t, l, may, ref("a", "q", 0), api.ErrNone)
		if !slices.Equal(l[:10], was) || !slices.Equal(may[:10], mayWas) {
			t.Fatalf("behind Expand: %+v, %v", l[:10], may[:10])
		}
	}
}

// TestToldIsTheCallers: written over, it changes nothing; nor does what is written over what was handed in change what was told.
func TestToldIsTheCallers(t *testing.T) {
	l, may := xy("{{include a/y}}\n{{include a/z}}", "y"), []string{"a"}
	l = append(l, page("a", "z", 5, "z"))
	_, first, _ := Expand(l, may, atX)
	first[0], first[1] = api.Ref{}, api.Ref{}
	_ = append(first, ref("q", "q", 1))
	check(t, l, may, atX, "y\nz\n", ref("a", "y", 1), ref("a", "z", 5))
	s, refs, _ := Expand(l, may, atX)
	l[0], l[1], l[2], may[0] = api.Page{}, page("a", "x", 1, "new"), api.Page{}, "q"
	if s != "y\nz\n" || !slices.Equal(refs, []api.Ref{ref("a", "y", 1), ref("a", "z", 5)}) {
		t.Errorf("what was told is %q, %v", s, refs)
	}
	checkError(t, l, may, atX, api.ErrDeny)
	may[0] = "a"
	check(t, l, may, atX, "new\n")
}
