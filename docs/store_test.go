package docs

import (
	"fmt"
	"slices"
	"strings"
	"testing"

	"scriptorium/api"
)

// doc is one whose last version has the number last, and whose kept versions have these texts.
func doc(name string, last int, texts ...string) api.Doc {
	d := api.Doc{Name: name, Last: last}
	for i, text := range texts {
		d.Versions = append(d.Versions, api.Version{Number: last - len(texts) + 1 + i, Text: text})
	}
	return d
}

func tenant(name string, docs ...api.Doc) api.Tenant {
	return api.Tenant{Name: name, Docs: docs}
}

func store(tenants ...api.Tenant) api.Store {
	return api.Store{Tenants: tenants}
}

func give(tenant, who string, right int) api.Grant {
	return api.Grant{Tenant: tenant, Who: who, Right: right}
}

// many is a text of n bytes.
func many(n int) string { return strings.Repeat("m", n) }

// texts are n texts of so many bytes.
func texts(n, bytes int) []string { return slices.Repeat([]string{many(bytes)}, n) }

// names are n names that rise, of the same beginning.
func names(begin string, n int) []string {
	var l []string
	for i := range n {
		l = append(l, fmt.Sprintf("%s%02d", begin, i))
	}
	return l
}

// tenants are n of them without documents.
func tenants(n int) []api.Tenant {
	var l []api.Tenant
	for _, name := range names("t", n) {
		l = append(l, tenant(name))
	}
	return l
}

// docsOf are n documents of one version each, of so many bytes.
func docsOf(n, bytes int) []api.Doc {
	var l []api.Doc
	for _, name := range names("d", n) {
		l = append(l, doc(name, 1, many(bytes)))
	}
	return l
}

// grants are n of a tenant's to people of another one.
func grants(tenant string, n int) []api.Grant {
	var l []api.Grant
	for _, own := range names("x", n) {
		l = append(l, give(tenant, "other/"+own, 1))
	}
	return l
}

// told writes a store so that two are told alike if they have the same items; a list of none is none.
func told(s api.Store) string {
	var b strings.Builder
	for _, t := range s.Tenants {
		fmt.Fprintf(&b, "tenant %q\n", t.Name)
		for _, d := range t.Docs {
			fmt.Fprintf(&b, "  doc %q %d\n", d.Name, d.Last)
			for _, v := range d.Versions {
				fmt.Fprintf(&b, "    %d %q\n", v.Number, v.Text)
			}
		}
	}
	for _, g := range s.Grants {
		fmt.Fprintf(&b, "grant %q %q %d\n", g.Tenant, g.Who, g.Right)
	}
	return b.String()
}

// same tells whether two stores have the same items.
func same(a, b api.Store) bool {
	sameDoc := func(a, b api.Doc) bool {
		return a.Name == b.Name && a.Last == b.Last && slices.Equal(a.Versions, b.Versions)
	}
	sameTenant := func(a, b api.Tenant) bool {
		return a.Name == b.Name && slices.EqualFunc(a.Docs, b.Docs, sameDoc)
	}
	return slices.EqualFunc(a.Tenants, b.Tenants, sameTenant) && slices.Equal(a.Grants, b.Grants)
}

func sameAnswer(a, b api.Answer) bool {
	return a.Err == b.Err && a.Version == b.Version && a.Text == b.Text && slices.Equal(a.List, b.List)
}

func toldAnswer(a api.Answer) string {
	return fmt.Sprintf("%d %d %q %q", a.Err, a.Version, a.Text, a.List)
}

// roomy is a copy of s whose lists have room behind them, in which something stands.
func roomy(s api.Store) api.Store {
	r := api.Store{Tenants: room(s.Tenants, tenant("behind")), Grants: room(s.Grants, give("behind", "behind/x", 9))}
	for i, t := range r.Tenants {
		r.Tenants[i].Docs = room(t.Docs, doc("behind", 9))
		for j, d := range t.Docs {
			r.Tenants[i].Docs[j].Versions = room(d.Versions, api.Version{Number: 9, Text: "behind"})
		}
	}
	return r
}

func room[T any](l []T, behind T) []T {
	return append(slices.Clone(l), behind, behind, behind)[:len(l)]
}

// toldRoom tells also what stands in the room behind the lists.
func toldRoom(s api.Store) string {
	s = api.Store{Tenants: slices.Clone(whole(s.Tenants)), Grants: whole(s.Grants)}
	for i, t := range s.Tenants {
		s.Tenants[i].Docs = slices.Clone(whole(t.Docs))
		for j, d := range s.Tenants[i].Docs {
			s.Tenants[i].Docs[j].Versions = whole(d.Versions)
		}
	}
	return told(s)
}

func whole[T any](l []T) []T { return l[:cap(l)] }

// writeOver writes over all that a store has, and over the room behind it.
func writeOver(s api.Store) {
	for _, t := range whole(s.Tenants) {
		for _, d := range whole(t.Docs) {
			fill(whole(d.Versions), api.Version{Number: -7, Text: "over"})
		}
		fill(whole(t.Docs), doc("over", -7))
	}
	fill(whole(s.Tenants), tenant("over"))
	fill(whole(s.Grants), give("over", "over", -7))
}

func fill[T any](l []T, with T) {
	for i := range l {
		l[i] = with
	}
}

// apply is Apply, of which it is also checked that what was handed in stays, that what came out shares nothing with it or with each other, and that the same is told once more.
func apply(t *testing.T, s api.Store, c api.Command) (api.Store, api.Answer) {
	t.Helper()
	in := roomy(s)
	was := toldRoom(in)
	got, answer := Apply(in, c)
	behind, said := told(got), toldAnswer(answer)
	if toldRoom(in) != was {
		t.Errorf("%+v changed what was handed in", c)
	}
	writeOver(in)
	if told(got) != behind || toldAnswer(answer) != said {
		t.Errorf("%+v: what came out hangs on what was handed in", c)
	}
	writeOver(got)
	if toldAnswer(answer) != said {
		t.Errorf("%+v: the answer hangs on the store", c)
	}
	got, answer = Apply(s, c)
	again := toldRoom(got)
	fill(whole(answer.List), "over")
	if toldRoom(got) != again {
		t.Errorf("%+v: the store hangs on the answer", c)
	}
	got, answer = Apply(s, c)
	if told(got) != behind || toldAnswer(answer) != said {
		t.Errorf("%+v: told otherwise once more", c)
	}
	return got, answer
}

// checkApply: the store behind c, and what c answers.
func checkApply(t *testing.T, s api.Store, c api.Command, want api.Store, answer api.Answer) {
	t.Helper()
	got, a := apply(t, s, c)
	if toldAnswer(a) != toldAnswer(answer) {
		t.Errorf("%+.40v answers %.200s, not %.200s", c, toldAnswer(a), toldAnswer(answer))
	}
	if told(got) != told(want) {
		t.Errorf("behind %+.40v there is\n%.500s\nnot\n%.500s", c, told(got), told(want))
	}
	if Right(s) && !Right(got) {
		t.Errorf("behind %+.40v there is what is not right: %.500s", c, told(got))
	}
}

// checkRefused: c answers an error alone, and has changed nothing.
func checkRefused(t *testing.T, s api.Store, c api.Command, err api.Errno) {
	t.Helper()
	checkApply(t, s, c, s, api.Answer{Err: err})
}

// checkTold: c answers this, and has changed nothing.
func checkTold(t *testing.T, s api.Store, c api.Command, answer api.Answer) {
	t.Helper()
	checkApply(t, s, c, s, answer)
}

// some is a store with documents and grants of each right.
func some() api.Store {
	return api.Store{
		Tenants: []api.Tenant{
			tenant("a", doc("d", 2, "*1*", "two"), doc("e", 12, texts(8, 1)...)),
			tenant("b", doc("d", 1, "b's own")),
			tenant("c"),
		},
		Grants: []api.Grant{
			give("a", "b/owns", 3), give("a", "b/reads", 1), give("a", "b/writes", 2), give("a", "z/root", 1),
			give("b", "a/reads", 1),
		},
	}
}

// ops are all commands' kinds.
func ops() []int { return []int{1, 2, 3, 4, 5, 6, 7, 8} }

// tells are the kinds of commands that only tell.
func tells() []int { return []int{api.OpGet, api.OpList, api.OpHistory, api.OpRender} }
