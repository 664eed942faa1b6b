package docs

import (
	"strconv"
	"strings"
	"testing"

	"scriptorium/api"
	"scriptorium/html"
)

func rendering(who, tenant, doc string, version int) api.Command {
	return api.Command{Op: api.OpRender, Who: who, Tenant: tenant, Doc: doc, Version: version}
}

func checkRender(t *testing.T, s api.Store, c api.Command, version int, text string) {
	t.Helper()
	checkTold(t, s, c, api.Answer{Version: version, Text: text})
}

func TestRenderOfExamples(t *testing.T) {
	s := store(tenant("a", doc("d", 2, "*1*", "*1*")))
	checkRender(t, s, rendering("a/x", "a", "d", 0), 2, "<p><em>1</em></p>\n")
	checkRefused(t, s, rendering("b/x", "a", "d", 0), api.ErrDeny)
	s.Grants = []api.Grant{give("a", "b/x", 1)}
	checkRender(t, s, rendering("b/x", "a", "d", 0), 2, "<p><em>1</em></p>\n")
}

// TestRenderIsHTML: of what includes nothing, as html tells it.
func TestRenderIsHTML(t *testing.T) {
	for _, text := range []string{"", "\n", "# a *b*", "a\r\nb", "- x\n- y\n\n[z]\n\n[z]: /u 't'", "<b>&amp;\x00", "\xff", "    code", "{{include a/d@03}}", many(4096)} {
		checkRender(t, store(tenant("a", doc("d", 1, text))), rendering("a/x", "a", "d", 0), 1, html.Render([]byte(text)))
	}
}

// TestRenderIncludes: the latest version or the one that is named, of the same tenant or another one.
func TestRenderIncludes(t *testing.T) {
	s := api.Store{
		Tenants: []api.Tenant{
			tenant("a", doc("d", 3, "{{include a/e}}", "{{include a/e@1}}", "# d\n{{include b/f}}\n*d*"), doc("e", 2, "*old*", "*new*")),
			tenant("b", doc("f", 9, "- f\n{{include c/g@4}}")),
			tenant("c", doc("g", 5, "- *g*", "later")),
		},
		Grants: []api.Grant{give("a", "z/x", 1), give("b", "a/x", 1), give("c", "a/x", 1)},
	}
	checkRender(t, s, rendering("a/x", "a", "d", 1), 1, "<p><em>new</em></p>\n")
	checkRender(t, s, rendering("z/x", "a", "d", 1), 1, "<p><em>new</em></p>\n")
	checkRender(t, s, rendering("a/x", "a", "d", 2), 2, "<p><em>old</em></p>\n")
	for _, version := range []int{0, 3} {
		checkRender(t, s, rendering("a/x", "a", "d", version), 3, "<h1>d</h1>\n<ul>\n<li>f</li>\n<li><em>g</em>\n<em>d</em></li>\n</ul>\n")
		checkRefused(t, s, rendering("a/y", "a", "d", version), api.ErrDeny)
		checkRefused(t, s, rendering("a/root", "a", "d", version), api.ErrDeny)
		checkRefused(t, s, rendering("z/x", "a", "d", version), api.ErrDeny)
	}
	// Who may read two of the three is denied where the third one is met.
	s.Grants = []api.Grant{give("b", "a/x", 3)}
	checkRefused(t, s, rendering("a/x", "a", "d", 0), api.ErrDeny)
	checkRender(t, s, rendering("a/x", "a", "d", 2), 2, "<p><em>old</em></p>\n")
}

// TestRenderOfWhatMayNotBeRead: the same is told whether there is such a document, such a tenant, or none; also of who asks' own tenant, if there is none.
func TestRenderOfWhatMayNotBeRead(t *testing.T) {
	for _, name := range []string{"b/d", "b/none", "b/d@1", "b/d@7", "gone/d", "gone/d@1", "z/d"} {
		text := "ahead\n{{include " + name + "}}\n{{include a/none}}"
		s := api.Store{
			Tenants: []api.Tenant{tenant("a", doc("d", 1, text)), tenant("b", doc("d", 1, "{{include b/d}}"))},
			Grants:  []api.Grant{give("a", "z/x", 2)},
		}
		checkRefused(t, s, rendering("a/x", "a", "d", 0), api.ErrDeny)
		checkRefused(t, s, rendering("a/root", "a", "d", 0), api.ErrDeny)
		checkRefused(t, s, rendering("z/x", "a", "d", 0), api.ErrDeny)
	}
	s := store(tenant("a", doc("d", 1, "{{include z/e}}")), tenant("z", doc("e", 1, "e")))
	s.Grants = []api.Grant{give("a", "z/x", 1)}
	checkRender(t, s, rendering("z/x", "a", "d", 0), 1, "<p>e</p>\n")
	checkRefused(t, s, rendering("a/x", "a", "d", 0), api.ErrDeny)
	// A grant of a document's tenant to whom includes it is none to whom reads that one.
	s.Grants = []api.Grant{give("a", "y/x", 1), give("z", "a/x", 1)}
	checkRefused(t, s, rendering("y/x", "a", "d", 0), api.ErrDeny)
	checkRender(t, s, rendering("a/x", "a", "d", 0), 1, "<p>e</p>\n")
}

// chain is a document that includes the next, and so on; the last one includes nothing.
func chain(n int) api.Store {
	var texts []string
	for i := n; i > 1; i-- {
		texts = append(texts, "{{include a/d@"+strconv.Itoa(n-i+2)+"}}")
	}
	texts = append(texts, "*end*")
	docs := []api.Doc{doc("d", min(n, 8), texts[:min(n, 8)]...)}
	if n > 8 {
		docs[0].Versions[7].Text = "{{include b/d@1}}"
	}
	s := store(tenant("a", docs...))
	if n > 8 {
		var more []string
		for i := 8; i < n; i++ {
			more = append(more, "{{include b/d@"+strconv.Itoa(i-6)+"}}")
		}
		more[len(more)-1] = "*end*"
		s.Tenants = append(s.Tenants, tenant("b", doc("d", len(more), more...)))
		s.Grants = []api.Grant{give("b", "a/x", 1)}
	}
	return s
}

// TestRenderErrors has each error that Expand may tell.
func TestRenderErrors(t *testing.T) {
	for text, want := range map[string]api.Errno{
		"{{include a/d}}":                            api.ErrCycle,
		"{{include a/d@1}}":                          api.ErrCycle,
		"{{include a/e}}":                            api.ErrCycle,
		"{{include a/none}}":                         api.ErrNone,
		"{{include a/d@2}}":                          api.ErrNone,
		"{{include a/f@2}}":                          api.ErrNone,
		"{{include a/f@9}}":                          api.ErrNone,
		"{{include b/d}}":                            api.ErrDeny,
		"{{include a/big}}":                          api.ErrSize,
		"{{include a/none}}\n{{include b/d}}":        api.ErrNone,
		"{{include b/d}}\n{{include a/none}}":        api.ErrDeny,
		"{{include a/e}}\n{{include b/d}}":           api.ErrCycle,
		"# *d*\n{{include a/f}}\n{{include a/none}}": api.ErrNone,
	} {
		big := strings.Repeat("{{include a/f}}\n", 5)
		s := store(tenant("a", doc("big", 1, big), doc("d", 1, text), doc("e", 1, "{{include a/d}}"), doc("f", 5, many(4096), many(4096))), tenant("b", doc("d", 1, "b")))
		checkRefused(t, s, rendering("a/x", "a", "d", 0), want)
	}
	for n := 1; n <= 8; n++ {
		checkRender(t, chain(n), rendering("a/x", "a", "d", 1), 1, "<p><em>end</em></p>\n")
	}
	checkRender(t, chain(9), rendering("a/x", "a", "d", 1), 1, "<p><em>end</em></p>\n")
	checkRefused(t, chain(10), rendering("a/x", "a", "d", 1), api.ErrDeep)
	checkRender(t, chain(10), rendering("a/x", "a", "d", 2), 2, "<p><em>end</em></p>\n")
}

// TestRenderOfManyTakes: 256 are taken in, with the first one, and no more.
func TestRenderOfManyTakes(t *testing.T) {
	for n, err := range map[int]api.Errno{254: api.OK, 255: api.OK, 256: api.ErrSize} {
		s := store(tenant("a", doc("d", 1, strings.Repeat("{{include a/e}}\n", n)), doc("e", 1, "")))
		if err != api.OK {
			checkRefused(t, s, rendering("a/x", "a", "d", 0), err)
		} else {
			checkRender(t, s, rendering("a/x", "a", "d", 0), 1, "")
		}
	}
}

// TestRenderOfManyBytes: at MaxOut and one more.
func TestRenderOfManyBytes(t *testing.T) {
	for n, err := range map[int]api.Errno{16: api.OK, 17: api.ErrSize} {
		text := strings.Repeat("{{include a/e}}\n", 4) + strings.Repeat("x", n-1)
		s := store(tenant("a", doc("d", 1, text), doc("e", 1, many(4091))))
		if err != api.OK {
			checkRefused(t, s, rendering("a/x", "a", "d", 0), err)
			continue
		}
		want := html.Render([]byte(strings.Repeat(many(4091)+"\n", 4) + strings.Repeat("x", n-1)))
		checkRender(t, s, rendering("a/x", "a", "d", 0), 1, want)
	}
}

// TestRenderOfGone: a version that is gone is none, also where it is included.
func TestRenderOfGone(t *testing.T) {
	s := store(tenant("a", doc("d", 1, "{{include a/e@1}}")), tenant("b"))
	for i := range 9 {
		next, answer := Apply(s, putting("e", i, "e "+strconv.Itoa(i+1)))
		if answer.Err != api.OK {
			t.Fatal(answer)
		}
		s = next
		if i < 8 {
			checkRender(t, s, rendering("a/x", "a", "d", 0), 1, "<p>e 1</p>\n")
			checkRender(t, s, rendering("a/x", "a", "e", 1), 1, "<p>e 1</p>\n")
		}
	}
	checkRefused(t, s, rendering("a/x", "a", "d", 0), api.ErrNone)
	checkRefused(t, s, rendering("a/x", "a", "e", 1), api.ErrNone)
	checkRender(t, s, rendering("a/x", "a", "e", 2), 2, "<p>e 2</p>\n")
	checkRender(t, s, rendering("a/x", "a", "e", 0), 9, "<p>e 9</p>\n")
}
