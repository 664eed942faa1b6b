package include

import (
	"regexp"
	"slices"
	"strings"
	"testing"

	"scriptorium/api"
)

// lineEnds is another reading of where lines end.
var lineEnds = regexp.MustCompile("\r\n|\r|\n")

// otherLines are a text's, cleaned.
func otherLines(text string) []string {
	l := lineEnds.Split(strings.ReplaceAll(string([]rune(text)), "\x00", "\ufffd"), -1)
	if l[len(l)-1] == "" {
		l = l[:len(l)-1]
	}
	return l
}

// open is a document of which lines are left.
type open struct {
	ref   api.Ref
	lines []string
}

// told is what Expand should tell, and which page at is.
type told struct {
	text string
	refs []api.Ref
	err  api.Errno
	at   api.Ref
}

// otherExpand reads J2 once more: by a map of the pages, and a row of open documents that is worked off line by line.
func otherExpand(pages []api.Page, may []string, at api.Ref) told {
	texts, latest := map[api.Ref]string{}, map[api.Ref]int{}
	for i := len(pages) - 1; i >= 0; i-- {
		r := pages[i].Ref
		texts[r] = pages[i].Text
		doc := ref(r.Tenant, r.Doc, 0)
		if v, ok := latest[doc]; !ok || v < r.Version {
			latest[doc] = r.Version
		}
	}
	var row []open
	var all []api.Ref
	add := func(r api.Ref) api.Errno {
		if !slices.Contains(may, r.Tenant) {
			return api.ErrDeny
		}
		if r.Version == 0 {
			r.Version = latest[r]
		}
		text, ok := texts[r]
		if !ok {
			return api.ErrNone
		}
		for _, o := range row {
			if o.ref == r {
				return api.ErrCycle
			}
		}
		if len(row) == 9 {
			return api.ErrDeep
		}
		if len(all) == 256 {
			return api.ErrSize
		}
		row, all = append(row, open{r, otherLines(text)}), append(all, r)
		return api.OK
	}
	out := ""
	err := add(at)
	for err == api.OK && len(row) > 0 {
		top := &row[len(row)-1]
		if len(top.lines) == 0 {
			row = row[:len(row)-1]
			continue
		}
		line := top.lines[0]
		top.lines = top.lines[1:]
		if r, ok := otherScan(line); ok {
			err = add(r)
			continue
		}
		if out += line + "\n"; len(out) > 16384 {
			err = api.ErrSize
		}
	}
	if err != api.OK {
		return told{err: err}
	}
	var refs []api.Ref
	for _, r := range all[1:] {
		if !slices.Contains(refs, r) {
			refs = append(refs, r)
		}
	}
	return told{out, refs, api.OK, all[0]}
}

// checkTold holds Expand against what it should tell.
func checkTold(t *testing.T, pages []api.Page, may []string, at api.Ref, want told) {
	t.Helper()
	s, refs, e := Expand(pages, may, at)
	if s != want.text || !slices.Equal(refs, want.refs) || e != want.err {
		t.Fatalf("Expand(%+v, %v, %v) is\n%q, %v, %v, not\n%q, %v, %v", pages, may, at, s, refs, e, want.text, want.refs, want.err)
	}
}

// eachCase calls f with pages of all of some texts, all tenants that may be read, and several documents to begin with.
func eachCase(f func(pages []api.Page, may []string, at api.Ref)) {
	texts := []string{
		"", "1\r2\xff", "{{include a/x}}", "{{include a/x@1}}\r\n3", "4\n{{include a/y}}", "{{include b/x}}\n{{include a/y@1}}",
		" {{include a/x@2}}\n{{include a/x@1}}\t", "{{include b/x@7}}\n5", "{{include c/x}}", "{{include b/x@8}}\n{{include a/q}}",
	}
	ats := []api.Ref{atX, ref("a", "x", 1), ref("a", "y", 0), ref("b", "x", 7), ref("b", "q", 0)}
	for i := range len(texts) * len(texts) * len(texts) * len(texts) {
		text := func() string {
			s := texts[i%len(texts)]
			i /= len(texts)
			return s
		}
		pages := []api.Page{page("a", "x", 1, text()), page("a", "x", 2, text()), page("b", "x", 7, text()), page("a", "y", 1, text())}
		for _, may := range [][]string{onlyA, {"b"}, {"b", "a"}, {"a", "b", "c"}} {
			for _, at := range ats {
				f(pages, may, at)
			}
		}
	}
}

func TestAgainstAnotherReading(t *testing.T) {
	seen := map[api.Errno]int{}
	eachCase(func(pages []api.Page, may []string, at api.Ref) {
		want := otherExpand(pages, may, at)
		checkTold(t, pages, may, at, want)
		seen[want.err]++
	})
	for _, e := range []api.Errno{api.OK, api.ErrDeny, api.ErrNone, api.ErrCycle} {
		if seen[e] < 1000 {
			t.Errorf("only %d cases told %v", seen[e], e)
		}
	}
}

// TestHangsOnWhatIsTold: without the pages that are neither told nor at's all is told as before.
func TestHangsOnWhatIsTold(t *testing.T) {
	less := 0
	eachCase(func(pages []api.Page, may []string, at api.Ref) {
		want := otherExpand(pages, may, at)
		if want.err != api.OK {
			return
		}
		var needed []api.Page
		for _, p := range pages {
			if p.Ref == want.at || slices.Contains(want.refs, p.Ref) {
				needed = append(needed, p)
			}
		}
		if len(needed) < len(pages) {
			less++
		}
		checkTold(t, needed, may, at, want)
	})
	if less < 1000 {
		t.Errorf("only %d cases have a page that is not told", less)
	}
}

// TestHangsOnNoOtherTenant: whatever stands in tenants that may does not name, all is told as before, errors too.
func TestHangsOnNoOtherTenant(t *testing.T) {
	eachCase(func(pages []api.Page, may []string, at api.Ref) {
		want := otherExpand(pages, may, at)
		var without, others []api.Page
		for _, p := range pages {
			if slices.Contains(may, p.Ref.Tenant) {
				without, others = append(without, p), append(others, p)
				continue
			}
			p.Text += "\n{{include a/y}}\n" + p.Text
			p.Ref.Version++
			others = append(others, p, page(p.Ref.Tenant, "q", 0, "q"), page("c", "x", 1, "c"))
		}
		checkTold(t, without, may, at, want)
		checkTold(t, others, may, at, want)
	})
}

// TestOrderOfPages: where no two pages are of one Ref, it does not matter.
func TestOrderOfPages(t *testing.T) {
	eachCase(func(pages []api.Page, may []string, at api.Ref) {
		want := otherExpand(pages, may, at)
		back := slices.Clone(pages)
		slices.Reverse(back)
		checkTold(t, back, may, at, want)
		checkTold(t, slices.Concat(pages, back), may, at, want)
	})
}

// TestToldOnceMore: what was told includes nothing, so that a document that holds it is told as it is.
func TestToldOnceMore(t *testing.T) {
	eachCase(func(pages []api.Page, may []string, at api.Ref) {
		want := otherExpand(pages, may, at)
		if want.err != api.OK {
			return
		}
		again := []api.Page{page("a", "x", 1, want.text)}
		checkTold(t, again, onlyA, atX, told{text: want.text})
	})
}

// TestAllShortTexts has each short text of a few pieces in a document, and in one that it includes.
func TestAllShortTexts(t *testing.T) {
	pieces := []string{"a", "\n", "\r", " ", "{{include a/y}}", "{{include a/x}}", "\x00", "\xe4", "@1"}
	eachText(pieces, 5, func(s string) {
		l := xy(s, "y")
		checkTold(t, l, onlyA, atX, otherExpand(l, onlyA, atX))
		l = xy("1\n{{include a/y}}\n2\n", s)
		checkTold(t, l, onlyA, atX, otherExpand(l, onlyA, atX))
	})
}
