package include

import (
	"strconv"
	"testing"

	"scriptorium/api"
)

// chainOf are n documents d1, d2, .. of which each includes the next one; the last one has a text.
func chainOf(n int, text string) []api.Page {
	var l []api.Page
	for i := 1; i < n; i++ {
		l = append(l, page("a", "d"+strconv.Itoa(i), 1, "{{include a/d"+strconv.Itoa(i+1)+"}}"))
	}
	return append(l, page("a", "d"+strconv.Itoa(n), 1, text))
}

var atD = ref("a", "d1", 0)

func TestDeep(t *testing.T) {
	for n := 1; n <= api.MaxDepth+1; n++ {
		var refs []api.Ref
		for i := 2; i <= n; i++ {
			refs = append(refs, ref("a", "d"+strconv.Itoa(i), 1))
		}
		check(t, chainOf(n, "end"), onlyA, atD, "end\n", refs...)
	}
	for n := api.MaxDepth + 2; n < 20; n++ {
		checkError(t, chainOf(n, "end"), onlyA, atD, api.ErrDeep)
	}
	// It is the chain that counts, not how many there were.
	l := append(chainOf(api.MaxDepth+1, "end"), page("a", "x", 1, "{{include a/d2}}\n{{include a/d2}}\n{{include a/d3}}"))
	if _, refs, e := Expand(l, onlyA, atX); e != api.OK || len(refs) != api.MaxDepth {
		t.Errorf("Expand of %d behind x is %v, %v", api.MaxDepth, refs, e)
	}
	l[len(l)-1].Text = "{{include a/d2}}\n{{include a/d1}}"
	checkError(t, l, onlyA, atX, api.ErrDeep)
}

// TestDeepByVersions has a chain of versions of one document.
func TestDeepByVersions(t *testing.T) {
	var l []api.Page
	for v := 1; v <= 12; v++ {
		l = append(l, page("a", "x", v, "{{include a/x@"+strconv.Itoa(v-1)+"}}"))
	}
	l[0].Text = "end"
	if s, refs, e := Expand(l, onlyA, ref("a", "x", api.MaxDepth+1)); s != "end\n" || len(refs) != api.MaxDepth || e != api.OK {
		t.Errorf("Expand of %d versions is %q, %v, %v", api.MaxDepth+1, s, refs, e)
	}
	checkError(t, l, onlyA, ref("a", "x", api.MaxDepth+2), api.ErrDeep)
	checkError(t, l, onlyA, atX, api.ErrDeep)
}

func TestTakes(t *testing.T) {
	line := "{{include a/y}}\n"
	y := ref("a", "y", 1)
	check(t, xy(many(line, api.MaxTakes-2), ""), onlyA, atX, "", y)
	check(t, xy(many(line, api.MaxTakes-1), ""), onlyA, atX, "", y)
	checkError(t, xy(many(line, api.MaxTakes), ""), onlyA, atX, api.ErrSize)
	checkError(t, xy(many(line, api.MaxTakes+1), ""), onlyA, atX, api.ErrSize)
	checkError(t, xy(many(line, 100000), ""), onlyA, atX, api.ErrSize)
	check(t, xy(many(line, api.MaxTakes-1)+"x", "y"), onlyA, atX, many("y\n", api.MaxTakes-1)+"x\n", y)
}

// TestTakesOfATree: each Ref counts as often as it was taken in, at every depth: x, five of p, and in each of these some of y.
func TestTakesOfATree(t *testing.T) {
	tree := func(ofY int) []api.Page {
		l := xy(many("{{include a/p}}\n", 5), "y")
		return append(l, page("a", "p", 1, many("{{include a/y}}\n", ofY)))
	}
	refs := []api.Ref{ref("a", "p", 1), ref("a", "y", 1)}
	check(t, tree(50), onlyA, atX, many("y\n", 250), refs...)
	checkError(t, tree(51), onlyA, atX, api.ErrSize)
	two := []api.Page{}
	for i := range 8 {
		next := "{{include a/d" + strconv.Itoa(i+1) + "}}\n"
		two = append(two, page("a", "d"+strconv.Itoa(i), 1, next+next))
	}
	two = append(two, page("a", "d8", 1, "."))
	checkError(t, two, onlyA, ref("a", "d0", 0), api.ErrSize)
	if s, l, e := Expand(two, onlyA, ref("a", "d1", 0)); e != api.OK || len(l) != 7 || s != many(".\n", 128) {
		t.Errorf("Expand of %d takes is %s, %v, %v", 255, short(s), l, e)
	}
}

// TestManyRefs: as many as may be taken in, all of them others.
func TestManyRefs(t *testing.T) {
	build := func(n int) ([]api.Page, []api.Ref, string) {
		text, told := "", ""
		var l []api.Page
		var refs []api.Ref
		for i := 1; i <= n; i++ {
			s := strconv.Itoa(i)
			text += "{{include a/y@" + s + "}}\n"
			told += s + "\n"
			l = append(l, page("a", "y", i, s))
			refs = append(refs, ref("a", "y", i))
		}
		return append(l, page("a", "x", 1, text)), refs, told
	}
	l, refs, told := build(api.MaxTakes - 1)
	check(t, l, onlyA, atX, told, refs...)
	l, _, _ = build(api.MaxTakes)
	checkError(t, l, onlyA, atX, api.ErrSize)
}

func TestOut(t *testing.T) {
	const n = api.MaxOut
	for _, text := range []string{
		many("a", n-1), many("a", n-1) + "\n", many("\n", n), many("\r", n), many("\r\n", n), many("a\r\n", n/2), many("a", n-2) + "\n\n", "\n" + many("a", n-2),
		many("\xff", (n-1)/3), many("\x00", (n-1)/3), many("ä", (n-1)/2) + "a", many("{", n-1), many(" ", n-1),
	} {
		s, refs, e := Expand(xy(text, ""), onlyA, atX)
		if len(s) != n || len(refs) != 0 || e != api.OK {
			t.Errorf("Expand of %d bytes is %d, %v, %v", len(text), len(s), refs, e)
		}
		checkError(t, xy("a"+text, ""), onlyA, atX, api.ErrSize)
		checkError(t, xy("\n"+text, ""), onlyA, atX, api.ErrSize)
		checkError(t, xy(text+"\n\n", ""), onlyA, atX, api.ErrSize)
	}
	checkError(t, xy(many("a", n), ""), onlyA, atX, api.ErrSize)
	checkError(t, xy(many("\xff", (n-1)/3+1), ""), onlyA, atX, api.ErrSize)
	checkError(t, xy(many("a", 1<<20), ""), onlyA, atX, api.ErrSize)
}

// TestOutOfSeveral: all that was put together counts, wherever it stood; directives don't.
func TestOutOfSeveral(t *testing.T) {
	const n = api.MaxOut
	line := "{{include a/y}}\n"
	y := ref("a", "y", 1)
	half := many("a", n/2-1)
	check(t, xy(line+half, half), onlyA, atX, half+"\n"+half+"\n", y)
	check(t, xy(half+"\n"+line, half), onlyA, atX, half+"\n"+half+"\n", y)
	check(t, xy(line+line, half), onlyA, atX, half+"\n"+half+"\n", y)
	checkError(t, xy(line+half+"a", half), onlyA, atX, api.ErrSize)
	checkError(t, xy(line+half, half+"a"), onlyA, atX, api.ErrSize)
	checkError(t, xy(line+line+"\n", half), onlyA, atX, api.ErrSize)
	checkError(t, xy(line+line+line, half), onlyA, atX, api.ErrSize)
	check(t, xy(many("a", n-1)+"\n"+line+line, ""), onlyA, atX, many("a", n-1)+"\n", y)
	checkError(t, xy(many("a", n-1)+"\n"+line, "\n"), onlyA, atX, api.ErrSize)
	check(t, xy(many(" ", n)+line, "y"), onlyA, atX, "y\n", y)
	check(t, xy(many(line, 200), many("a", 80)), onlyA, atX, many(many("a", 80)+"\n", 200), y)
	checkError(t, xy(many(line, 203), many("a", 80)), onlyA, atX, api.ErrSize)
}

// TestFirstError: of several errors of one Ref, in the order in which they are written.
func TestFirstError(t *testing.T) {
	full := func(line string) []api.Page {
		l := append(chainOf(api.MaxDepth+1, line), page("a", "y", 1, ""), page("b", "y", 1, ""))
		l[0].Text = many("{{include a/y}}\n", api.MaxTakes-api.MaxDepth-1) + l[0].Text
		return l
	}
	// d1 has the chain and the takes full: the last document may have one line more, but take nothing in.
	if s, _, e := Expand(full("end"), onlyA, atD); s != "end\n" || e != api.OK {
		t.Errorf("Expand of %d takes is %q, %v", api.MaxTakes, s, e)
	}
	checkError(t, full("{{include b/y}}"), onlyA, atD, api.ErrDeny)
	checkError(t, full("{{include b/q}}"), onlyA, atD, api.ErrDeny)
	checkError(t, full("{{include a/q}}"), onlyA, atD, api.ErrNone)
	checkError(t, full("{{include a/y@2}}"), onlyA, atD, api.ErrNone)
	checkError(t, full("{{include a/d1}}"), onlyA, atD, api.ErrCycle)
	checkError(t, full("{{include a/d9@1}}"), onlyA, atD, api.ErrCycle)
	checkError(t, full("{{include a/y}}"), onlyA, atD, api.ErrDeep)
	checkError(t, full("{{include b/y}}"), []string{"a", "b"}, atD, api.ErrDeep)
	checkError(t, full(many("a", api.MaxOut)), onlyA, atD, api.ErrSize)
	wide := many("{{include a/y}}\n", api.MaxTakes-1)
	checkError(t, xy(wide+"{{include b/y}}", ""), onlyA, atX, api.ErrDeny)
	checkError(t, xy(wide+"{{include a/q}}", ""), onlyA, atX, api.ErrNone)
	checkError(t, xy(wide+"{{include a/x}}", ""), onlyA, atX, api.ErrCycle)
	checkError(t, xy(wide+"{{include a/y}}", ""), onlyA, atX, api.ErrSize)
	checkError(t, xy("{{include b/x}}", ""), []string{"b"}, atX, api.ErrDeny)
	checkError(t, nil, []string{"b"}, atX, api.ErrDeny)
}

// TestFirstLineEnds: of several lines with errors the first one tells its own.
func TestFirstLineEnds(t *testing.T) {
	deep := page("a", "p", 1, "{{include a/d1}}")
	for _, a := range errorLines() {
		for _, b := range errorLines() {
			l := append(chainOf(api.MaxDepth+1, "end"), deep, page("a", "x", 1, "1\n"+a.line+"\n2\n"+b.line))
			checkError(t, l, onlyA, atX, a.err)
			l[len(l)-1].Text = "1\n{{include a/y}}\n" + b.line
			checkError(t, append(l, page("a", "y", 1, a.line+"\n"+b.line)), onlyA, atX, a.err)
		}
	}
}

type errorLine struct {
	line string
	err  api.Errno
}

// errorLines are lines of a/x, or of what it includes, each with the error that it makes.
func errorLines() []errorLine {
	return []errorLine{
		{"{{include b/z}}", api.ErrDeny},
		{"{{include a/q}}", api.ErrNone},
		{"{{include a/x}}", api.ErrCycle},
		{"{{include a/p}}", api.ErrDeep},
		{many("a", api.MaxOut), api.ErrSize},
	}
}
