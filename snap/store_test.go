package snap

import (
	"fmt"
	"slices"
	"strings"
	"testing"

	"scriptorium/api"
)

// doc is one whose last version has the number last, and whose kept versions have these texts.
func doc(name string, last int, texts ...string) api.Doc {
	d := api.Doc{Name: name, Last: last}
	for i, text := range texts {
		d.Versions = append(d.Versions, api.Version{Number: last - len(texts) + 1 + i, Text: text})
	}
	return d
}

func tenant(name string, docs ...api.Doc) api.Tenant {
	return api.Tenant{Name: name, Docs: docs}
}

func store(tenants ...api.Tenant) api.Store {
	return api.Store{Tenants: tenants}
}

func give(tenant, who string, right int) api.Grant {
	return api.Grant{Tenant: tenant, Who: who, Right: right}
}

// some is a store with documents and grants of each right.
func some() api.Store {
	s := store(tenant("a", doc("d", 2, "*1*", "two"), doc("e", 300, "", "\xff\x00", many(130))), tenant("bb", doc("d", 1, "")), tenant("c"))
	s.Grants = []api.Grant{give("a", "bb/owns", 3), give("a", "bb/reads", 1), give("bb", "z/root", 2)}
	return s
}

// granted is a store of tenants that let each other in.
func granted() api.Store {
	return api.Store{Tenants: []api.Tenant{tenant("a"), tenant("b")}, Grants: []api.Grant{give("a", "b/x", 1), give("b", "a/root", 3)}}
}

// full is a store in which there are as many as may be of all, of the longest names and the greatest numbers.
func full() api.Store {
	name := func(begin string, i int) string { return fmt.Sprintf("%s%02d%s", begin, i, strings.Repeat("-", 13)) }
	var s api.Store
	for i := range 8 {
		t := tenant(name("t", i))
		for j := range 8 {
			t.Docs = append(t.Docs, doc(name("d", j), 999999, slices.Repeat([]string{many(512)}, 8)...))
		}
		s.Tenants = append(s.Tenants, t)
		for j := range 8 {
			s.Grants = append(s.Grants, give(t.Name, name("u", i)+"/"+name("x", j), 1+j%3))
		}
	}
	return s
}

// rightStores are stores that are right, from the empty one to the full one.
func rightStores() []api.Store {
	return []api.Store{
		{}, {Tenants: []api.Tenant{}, Grants: []api.Grant{}}, store(tenant("a")), some(), full(), store(full().Tenants[:7]...),
		store(tenant("a", doc("d", 1, ""))), store(tenant("a", doc("d", 8, slices.Repeat([]string{many(4096)}, 8)...))),
		store(tenant("a", doc("d", 999999, many(4096)))), store(tenant("a", doc("a", 127, "S"), doc("b", 128, "S"), doc("c", 16384, "S"))),
		granted(),
	}
}

// wrongStores are stores that are not right, each in one way.
func wrongStores() []api.Store {
	one := func(d api.Doc) api.Store { return store(tenant("a", d)) }
	giving := func(l ...api.Grant) api.Store { return api.Store{Tenants: some().Tenants, Grants: l} }
	moved := doc("d", 3, "", "", "")
	moved.Versions[1].Number = 3
	below := doc("d", 0, "", "")
	nine := append(full().Tenants, tenant("u"))
	return []api.Store{
		store(tenant("")), store(tenant("A")), store(tenant(many(17))), store(tenant("b"), tenant("a")), store(tenant("a"), tenant("a")), store(nine...),
		store(tenant("a", doc("b", 1, ""), doc("a", 1, ""))), store(tenant("a", append(full().Tenants[0].Docs, doc("e", 1, ""))...)),
		one(doc("", 1, "")), one(doc("d/e", 1, "")), one(doc("d", 1)), one(doc("d", 9, slices.Repeat([]string{""}, 9)...)), one(moved), one(below),
		one(doc("d", 0, "")), one(doc("d", -1, "")), one(doc("d", 1000000, "")), one(doc("d", 1, many(4097))),
		store(tenant("a", doc("d", 8, slices.Repeat([]string{many(4096)}, 8)...), doc("e", 1, "m"))),
		giving(give("a", "b/x", 0)), giving(give("a", "b/x", 4)), giving(give("a", "b/x", -1)), giving(give("a", "a/x", 1)), giving(give("a", "b", 1)),
		giving(give("none", "b/x", 1)), giving(give("bb", "c/x", 1), give("a", "c/x", 1)), giving(give("a", "c/x", 1), give("a", "c/x", 1)),
		{Tenants: full().Tenants, Grants: append(full().Grants, give(full().Tenants[7].Name, "z/x", 1))},
	}
}

// told writes a store so that two are told alike if they have the same items; a list of none is none.
func told(s api.Store) string {
	var b strings.Builder
	for _, t := range s.Tenants {
		fmt.Fprintf(&b, "tenant %q\n", t.Name)
		for _, d := range t.Docs {
			fmt.Fprintf(&b, "  doc %q %d", d.Name, d.Last)
			for _, v := range d.Versions {
				fmt.Fprintf(&b, ", %d %q", v.Number, v.Text)
			}
			b.WriteString("\n")
		}
	}
	for _, g := range s.Grants {
		fmt.Fprintf(&b, "grant %q %q %d\n", g.Tenant, g.Who, g.Right)
	}
	return b.String()
}

// writeOver writes over all that a store has.
func writeOver(s api.Store) {
	for _, t := range s.Tenants {
		for _, d := range t.Docs {
			fill(d.Versions[:cap(d.Versions)], api.Version{Number: -7, Text: "over"})
		}
		fill(t.Docs[:cap(t.Docs)], doc("over", -7))
	}
	fill(s.Tenants[:cap(s.Tenants)], tenant("over"))
	fill(s.Grants[:cap(s.Grants)], give("over", "over", -7))
}

// encode is Encode, of which it is also checked that the store stays, and that what came out is memory of its own.
func encode(t *testing.T, s api.Store) ([]byte, api.Errno) {
	t.Helper()
	was := told(s)
	b, err := Encode(s)
	got := slices.Clone(b)
	fill(b[:cap(b)], 9)
	if told(s) != was {
		t.Errorf("Encode changed what was handed in: %.300s", was)
	}
	again, errAgain := Encode(s)
	if !slices.Equal(again, got) || errAgain != err {
		t.Errorf("Encode tells otherwise once more of %.300s", was)
	}
	return got, err
}

// decode is Decode, of which it is also checked that b stays, that what came out does not hang on it, and that it is memory of its own in all its lists.
func decode(t *testing.T, b []byte) (api.Store, error) {
	t.Helper()
	in := slices.Clone(b)
	s, err := Decode(in)
	if !slices.Equal(in, b) {
		t.Errorf("Decode changed %.60v", b)
	}
	was := told(s)
	fill(in, 83)
	if told(s) != was {
		t.Errorf("Decode of %.60v hangs on what was handed in", b)
	}
	checkApart(t, s)
	writeOver(s)
	again, errAgain := Decode(b)
	if told(again) != was || (err == nil) != (errAgain == nil) {
		t.Errorf("Decode tells otherwise once more of %.60v", b)
	}
	return again, errAgain
}

// checkApart: no two lists of documents or of versions share memory, nor the room behind them.
func checkApart(t *testing.T, s api.Store) {
	t.Helper()
	docs, versions := map[*api.Doc]int{}, map[*api.Version]int{}
	for _, tenant := range s.Tenants {
		claim(t, docs, tenant.Docs)
		for _, d := range tenant.Docs {
			claim(t, versions, d.Versions)
		}
	}
}

func claim[T any](t *testing.T, claimed map[*T]int, l []T) {
	t.Helper()
	l = l[:cap(l)]
	for i := range l {
		if claimed[&l[i]]++; claimed[&l[i]] > 1 {
			t.Fatalf("two lists of what was read share memory")
		}
	}
}
