package block

import (
	"fmt"
	"testing"

	"scriptorium/api"
)

// within is a form within n others.
func within(open string, n int, inner, shut string) string {
	return many(open, n) + inner + many(shut, n)
}

const (
	itemOpen = "tight(item("
	itemShut = "))"
)

// TestNestQuotes: 24 Quotes may be open, and no more.
func TestNestQuotes(t *testing.T) {
	for _, n := range []int{1, 2, api.MaxNest - 2, api.MaxNest - 1, api.MaxNest} {
		check(t, many(">", n), within("quote(", n, "", ")"))
		check(t, many("> ", n)+"a", within("quote(", n, `p"a"`, ")"))
	}
	for _, n := range []int{1, 2, 100} {
		check(t, many(">", api.MaxNest+n)+"a", within("quote(", api.MaxNest, fmt.Sprintf("p%q", many(">", n)+"a"), ")"))
	}
	deep := many(">", api.MaxNest)
	check(t, deep+">a\n"+deep+">b", within("quote(", api.MaxNest, `p">a\n>b"`, ")"))
	check(t, deep+"a\n"+deep+"> b", within("quote(", api.MaxNest, `p"a\n> b"`, ")"))
	check(t, deep+"# a\n"+deep+"> b", within("quote(", api.MaxNest, `h1"a" p"> b"`, ")"))
	check(t, deep+"a\nb", within("quote(", api.MaxNest, `p"a\nb"`, ")"))
}

// TestNestItems: Items count, Lists don't.
func TestNestItems(t *testing.T) {
	for _, n := range []int{1, 2, api.MaxNest - 2, api.MaxNest - 1, api.MaxNest} {
		check(t, many("- ", n)+"a", within(itemOpen, n, `p"a"`, itemShut))
		check(t, many("1. ", n)+"a", within("tight1(item(", n, `p"a"`, itemShut))
	}
	for _, n := range []int{1, 2, 100} {
		check(t, many("- ", api.MaxNest+n)+"a", within(itemOpen, api.MaxNest, fmt.Sprintf("p%q", many("- ", n)+"a"), itemShut))
	}
	half := api.MaxNest / 2
	mixed := within("quote("+itemOpen, half, `p"a"`, itemShut+")")
	check(t, many("> - ", half)+"a", mixed)
	check(t, many("> - ", half)+"> a", within("quote("+itemOpen, half, `p"> a"`, itemShut+")"))
	check(t, many("> - ", half)+"- a", within("quote("+itemOpen, half, `p"- a"`, itemShut+")"))
	check(t, many("> - ", half)+"***", within("quote("+itemOpen, half, `rule`, itemShut+")"))
	check(t, many("> - ", half)+"# a", within("quote("+itemOpen, half, `h1"a"`, itemShut+")"))
	check(t, many("> - ", half)+"```", within("quote("+itemOpen, half, `code""`, itemShut+")"))
	check(t, many("> - ", half)+"    a", within("quote("+itemOpen, half-1, `quote(tight(item(code"a\n")))`, itemShut+")"))
}

// TestNestOfWhatIsLeft: what a line leaves takes no room on it.
func TestNestOfWhatIsLeft(t *testing.T) {
	deep := many("> ", api.MaxNest)
	check(t, deep+"a\n\n"+deep+"b", within("quote(", api.MaxNest, `p"a"`, ")")+" "+within("quote(", api.MaxNest, `p"b"`, ")"))
	check(t, deep+"# a\n- b", within("quote(", api.MaxNest, `h1"a"`, ")")+` tight(item(p"b"))`)
	check(t, deep+"a\n- b", within("quote(", api.MaxNest, `p"a"`, ")")+` tight(item(p"b"))`)

	one := many("> ", api.MaxNest-1)
	check(t, one+"- a\n"+one+"- b", within("quote(", api.MaxNest-1, `tight(item(p"a") item(p"b"))`, ")"))
	check(t, one+"- a\n"+one+"  - b", within("quote(", api.MaxNest-1, `tight(item(p"a\n- b"))`, ")"))
	check(t, one+"- a\n"+one+"> b", within("quote(", api.MaxNest-1, `tight(item(p"a")) quote(p"b")`, ")"))
	check(t, one+"- # a\n"+one+"  > b", within("quote(", api.MaxNest-1, `tight(item(h1"a" p"> b"))`, ")"))

	items := many("- ", api.MaxNest-1)
	gap := many("  ", api.MaxNest-1)
	check(t, items+"- a\n"+gap+"- b\n"+gap+"> c", within(itemOpen, api.MaxNest-1, `tight(item(p"a") item(p"b")) quote(p"c")`, itemShut))
	// No room: the marker is a line of the paragraph, that goes on lazily with the next one.
	check(t, items+"- a\n"+gap+"  - b\n- c", `tight(item(`+within(itemOpen, api.MaxNest-1, `p"a\n- b"`, itemShut)+`) item(p"c"))`)
}

// TestThreeColumns: with three columns ahead of it a mark is one, with four it is code, or text behind a paragraph.
func TestThreeColumns(t *testing.T) {
	marks := []parsed{
		{"> b", `quote(p"b")`},
		{"# b", `h1"b"`},
		{"```b", `code[b]""`},
		{"~~~", `code""`},
		{"***", `rule`},
		{"- b", `tight(item(p"b"))`},
		{"1. b", `tight1(item(p"b"))`},
		{"[b]: c", ``},
		{"b", `p"b"`},
	}
	for _, m := range marks {
		for _, gap := range []string{"", " ", "  ", "   "} {
			check(t, gap+m.text, m.form)
		}
		for _, gap := range []string{"    ", "\t", " \t", "  \t", "   \t"} {
			check(t, gap+m.text, fmt.Sprintf("code%q", m.text+"\n"))
			check(t, "a\n"+gap+m.text, fmt.Sprintf("p%q", "a\n"+m.text))
		}
		check(t, "     "+m.text, fmt.Sprintf("code%q", " "+m.text+"\n"))
		check(t, "\t "+m.text, fmt.Sprintf("code%q", " "+m.text+"\n"))
	}
	for n, gap := range []string{"", " ", "  ", "   "} {
		check(t, gap+"<b>", fmt.Sprintf("html%q", many(" ", n)+"<b>\n"))
		check(t, "a\n"+gap+"===", `h1"a"`)
		check(t, "```\n"+gap+"```\na", `code"" p"a"`)
		check(t, "> a\n"+gap+"> b", `quote(p"a\nb")`)
		check(t, "> # a\n"+gap+"> b", `quote(h1"a" p"b")`)
	}
	check(t, "a\n    ===", `p"a\n==="`)
	check(t, "    <b>", `code"<b>\n"`)
	check(t, "> # a\n    > b", `quote(h1"a") code"> b\n"`)
}

// TestBehindMarker: one to four columns behind a marker are its own; of five and more but one.
func TestBehindMarker(t *testing.T) {
	for _, m := range []parsed{{"-", "tight"}, {"+", "tight"}, {"2.", "tight2"}, {"123456789)", "tight123456789"}} {
		for ahead := range 4 {
			for behind := 1; behind <= 4; behind++ {
				width := ahead + len(m.text) + behind
				s := many(" ", ahead) + m.text + many(" ", behind) + "# a\n"
				check(t, s+many(" ", width)+"b", m.form+`(item(h1"a" p"b"))`)
				check(t, s+many(" ", width)+"    b", m.form+`(item(h1"a" code"b\n"))`)
				if width-1 <= 3 {
					check(t, s+many(" ", width-1)+"b", m.form+`(item(h1"a")) p"b"`)
				} else {
					check(t, s+many(" ", width-1)+"b", m.form+`(item(h1"a")) code`+fmt.Sprintf("%q", many(" ", width-5)+"b\n"))
				}
			}
			for behind := 5; behind <= 7; behind++ {
				s := many(" ", ahead) + m.text + many(" ", behind) + "a\n\n"
				width := ahead + len(m.text) + 1
				code := fmt.Sprintf("code%q", many(" ", behind-5)+"a\n")
				check(t, s+many(" ", width)+"b", `loose`+m.form[5:]+`(item(`+code+` p"b"))`)
			}
		}
	}
	checkAll(t, []parsed{
		{"-\ta\n\n    b", `loose(item(p"a" p"b"))`},
		{"-\t# a\n   b", `tight(item(h1"a")) p"b"`},
		{"-\t\ta", `tight(item(code"  a\n"))`},
		{"- \ta\n\n    b", `loose(item(p"a" p"b"))`},
		{" -\ta\n\n    b", `loose(item(p"a" p"b"))`},
		{"  -\t# a\n    b", `tight(item(h1"a" p"b"))`},
		{"   -\t# a\n       b", `tight(item(h1"a")) code"   b\n"`},
		{"   -\t# a\n        b", `tight(item(h1"a" p"b"))`},
		{"-   \ta", `tight(item(code"  a\n"))`},
		{"-      \ta", `tight(item(code" \ta\n"))`},
		{"> -\ta\n>\n>     b", `quote(loose(item(p"a" p"b")))`},
		{"> -\t# a\n>   b", `quote(tight(item(h1"a" p"b")))`},
		{"> -\t# a\n>  b", `quote(tight(item(h1"a")) p"b")`},
	})
}

// TestBareMarker: a marker with nothing behind it, without and with a paragraph ahead.
func TestBareMarker(t *testing.T) {
	for _, m := range []parsed{{"+", "tight"}, {"*", "tight"}, {"1.", "tight1"}, {"1)", "tight1"}, {"7.", "tight7"}} {
		for _, gap := range []string{"", " ", "\t", "     ", " \t \t"} {
			width := len(m.text) + 1
			check(t, m.text+gap, m.form+`(item())`)
			check(t, m.text+gap+"\n"+many(" ", width)+"b", m.form+`(item(p"b"))`)
			check(t, m.text+gap+"\n"+many(" ", width-1)+"b", m.form+`(item()) p"b"`)
			check(t, m.text+gap+"\n"+many(" ", width+4)+"b", m.form+`(item(code"b\n"))`)
			check(t, m.text+gap+"\n\n"+many(" ", width)+"b", m.form+`(item()) p"b"`)
			check(t, m.text+gap+"\n"+m.text+" b", m.form+`(item() item(p"b"))`)
			check(t, "a\n"+m.text+gap+"\nb", fmt.Sprintf("p%q", "a\n"+m.text+gap+"\nb"))
			check(t, "a\n\n"+m.text+gap, `p"a" `+m.form+`(item())`)
			check(t, "# a\n"+m.text+gap, `h1"a" `+m.form+`(item())`)
			check(t, "> a\n"+m.text+gap, `quote(p"a") `+m.form+`(item())`)
			check(t, m.text+" a\n"+m.text+gap, m.form+`(item(p"a") item())`)
			check(t, "> a\n> "+m.text+gap, fmt.Sprintf(`quote(p%q)`, "a\n"+m.text))
		}
	}
	check(t, "-\n-\n-", `tight(item() item() item())`)
	check(t, "a\n-\nb", `h2"a" p"b"`)
	check(t, "- -", `tight(item(tight(item())))`)
	check(t, "- -\n  -\n-", `tight(item(tight(item() item())) item())`)
}
