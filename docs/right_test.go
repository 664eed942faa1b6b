package docs

import (
	"math"
	"slices"
	"testing"

	"scriptorium/api"
)

// checkRight holds Right against want; of a store that is not right every command answers ErrArg, and the empty store.
func checkRight(t *testing.T, s api.Store, want bool) {
	t.Helper()
	in := roomy(s)
	was := toldRoom(in)
	if got := Right(in); got != want {
		t.Errorf("Right(%.300s) is %v", told(s), got)
	}
	if toldRoom(in) != was {
		t.Errorf("Right(%.300s) changed it", told(s))
	}
	if want {
		return
	}
	for _, op := range append(ops(), 0, 9) {
		c := api.Command{Op: op, Who: "a/root", Tenant: "a", Doc: "d", Target: "b/x", Right: 1}
		checkApply(t, s, c, api.Store{}, api.Answer{Err: api.ErrArg})
	}
	checkApply(t, s, api.Command{Op: api.OpMake, Who: "new/root", Tenant: "new"}, api.Store{}, api.Answer{Err: api.ErrArg})
}

func TestRightOfFew(t *testing.T) {
	checkRight(t, api.Store{}, true)
	checkRight(t, api.Store{Tenants: []api.Tenant{}, Grants: []api.Grant{}}, true)
	checkRight(t, store(tenant("a")), true)
	checkRight(t, store(api.Tenant{Name: "a", Docs: []api.Doc{}}), true)
	checkRight(t, some(), true)
}

func TestRightOfTenants(t *testing.T) {
	for n := range api.MaxTenants + 3 {
		checkRight(t, store(tenants(n)...), n <= 8)
	}
	for _, l := range [][]string{{"a", "a"}, {"b", "a"}, {"a", "c", "b"}, {"a", "b", "b"}, {"a", "b", "a"}, {"aa", "a"}, {"a0", "a-"}} {
		var s api.Store
		for _, name := range l {
			s.Tenants = append(s.Tenants, tenant(name))
		}
		checkRight(t, s, false)
	}
	checkRight(t, store(tenant("a"), tenant("a-"), tenant("a0"), tenant("aa"), tenant("b")), true)
}

// wrongNames are no names.
func wrongNames() []string {
	return []string{"", "A", "0", "0a", "-", "-a", "a_", "a/b", "a b", "a\n", "\x00", "ä", "\xff", "aA", "abcdefghijklmnopq", many(4096)}
}

// rightNames are names at their edges.
func rightNames() []string {
	return []string{"a", "z", "a-", "a0", "z9-", "abcdefghijklmnop", "root"}
}

func TestRightOfNames(t *testing.T) {
	for _, name := range wrongNames() {
		checkRight(t, store(tenant(name)), false)
		checkRight(t, store(tenant("a", doc(name, 1, ""))), false)
		if name > "a" {
			checkRight(t, store(tenant("a"), tenant(name)), false)
			checkRight(t, store(tenant("a", doc("a", 1, ""), doc(name, 1, ""))), false)
		}
	}
	for _, name := range rightNames() {
		checkRight(t, store(tenant(name)), true)
		checkRight(t, store(tenant("a", doc(name, 1, ""))), true)
	}
}

func TestRightOfDocs(t *testing.T) {
	for n := range api.MaxDocs + 3 {
		checkRight(t, store(tenant("a", docsOf(n, 1)...)), n <= 8)
		checkRight(t, store(tenant("a", docsOf(8, 1)...), tenant("b", docsOf(n, 1)...)), n <= 8)
	}
	for _, l := range [][]string{{"a", "a"}, {"b", "a"}, {"a", "c", "b"}, {"a", "b", "b"}, {"a", "b", "a"}, {"aa", "a"}, {"a0", "a-"}} {
		var docs []api.Doc
		for _, name := range l {
			docs = append(docs, doc(name, 1, ""))
		}
		checkRight(t, store(tenant("a", docs...)), false)
		checkRight(t, store(tenant("a"), tenant("b", docs...)), false)
	}
	checkRight(t, store(tenant("a", doc("a", 1, ""), doc("a-", 1, ""), doc("a0", 1, ""), doc("aa", 1, ""), doc("b", 1, ""))), true)
	// Documents of two tenants have nothing to do with each other.
	checkRight(t, store(tenant("a", doc("z", 1, "")), tenant("b", doc("a", 1, ""), doc("z", 1, ""))), true)
}

func TestRightOfVersions(t *testing.T) {
	for n := range api.MaxVersions + 3 {
		for _, last := range []int{n, n + 1, 100, 999998, 999999} {
			checkRight(t, store(tenant("a", doc("d", last, texts(n, 1)...))), 1 <= n && n <= 8 && last <= 999999)
		}
		for _, last := range []int{n - 1, n - 2, 0, -1, 1000000, 1000001, math.MaxInt, math.MinInt, math.MinInt + n} {
			if last < n || last > 999999 {
				checkRight(t, store(tenant("a", doc("d", last, texts(n, 1)...))), false)
			}
		}
	}
}

// TestRightOfNumbers changes one number of documents that are right.
func TestRightOfNumbers(t *testing.T) {
	for n := 1; n <= 8; n++ {
		for _, last := range []int{n, n + 1, 50, 999999} {
			for _, by := range []int{-1, 1, 2, -8, 8, math.MaxInt - last, math.MinInt, 1 << 32} {
				for i := range n {
					d := doc("d", last, texts(n, 1)...)
					d.Versions[i].Number += by
					checkRight(t, store(tenant("a", d)), false)
				}
				d := doc("d", last, texts(n, 1)...)
				d.Last += by
				checkRight(t, store(tenant("a", d)), false)
			}
		}
	}
	for _, numbers := range [][]int{{2, 1}, {1, 1}, {1, 3}, {1, 3, 2}, {1, 2, 4}, {1, 2, 2}, {0}, {0, 1}, {-1, 0, 1}, {1, math.MaxInt}} {
		d := api.Doc{Name: "d", Last: numbers[len(numbers)-1]}
		for _, n := range numbers {
			d.Versions = append(d.Versions, api.Version{Number: n})
		}
		checkRight(t, store(tenant("a", d)), false)
	}
}

func TestRightOfTexts(t *testing.T) {
	for _, bytes := range []int{0, 1, 4095, 4096, 4097, 5000, 32768, 32769} {
		right := bytes <= 4096
		checkRight(t, store(tenant("a", doc("d", 1, many(bytes)))), right)
		for i := range 8 {
			l := texts(8, 0)
			l[i] = many(bytes)
			checkRight(t, store(tenant("a", doc("d", 8, l...))), right)
			docs := docsOf(8, 0)
			docs[i].Versions[0].Text = many(bytes)
			checkRight(t, store(tenant("a", docs...)), right)
			all := tenants(8)
			all[i].Docs = []api.Doc{doc("d", 1, many(bytes))}
			checkRight(t, store(all...), right)
		}
	}
	// Any bytes are a text.
	checkRight(t, store(tenant("a", doc("d", 1, "\x00\xff\xc3{{include"))), true)
}

func TestRightOfBytes(t *testing.T) {
	for n := range 65 {
		var docs []api.Doc
		for i, name := range names("d", 8) {
			if kept := min(max(n-8*i, 0), 8); kept > 0 {
				docs = append(docs, doc(name, kept, texts(kept, 4096)...))
			}
		}
		checkRight(t, store(tenant("a", docs...)), n <= 8)
	}
	full := []api.Doc{doc("d", 7, texts(7, 4096)...), doc("e", 1, many(4095)), doc("f", 1, "")}
	checkRight(t, store(tenant("a", full...)), true)
	full[2].Versions[0].Text = "1"
	checkRight(t, store(tenant("a", full...)), true)
	full[2].Versions[0].Text = "12"
	checkRight(t, store(tenant("a", full...)), false)
	// Sums of many small texts count as those of great ones; other tenants' texts don't.
	even := make([]api.Doc, 8)
	for i, name := range names("d", 8) {
		even[i] = doc(name, 8, texts(8, 512)...)
	}
	checkRight(t, store(tenant("a", even...)), true)
	checkRight(t, store(tenant("a", even...), tenant("b", even...)), true)
	for i := range even {
		more := slices.Clone(even)
		more[i] = doc(even[i].Name, 8, append(texts(7, 512), many(513))...)
		checkRight(t, store(tenant("a", more...)), false)
		checkRight(t, store(tenant("a", even...), tenant("b", more...)), false)
	}
}

func TestRightOfGrants(t *testing.T) {
	with := func(l ...api.Grant) api.Store {
		return api.Store{Tenants: []api.Tenant{tenant("a"), tenant("b"), tenant("c")}, Grants: l}
	}
	for _, n := range []int{0, 1, 63, 64, 65, 66} {
		checkRight(t, with(grants("b", n)...), n <= 64)
	}
	checkRight(t, with(give("a", "b/x", 1), give("a", "z/x", 2), give("b", "a/x", 3), give("c", "a/x", 3)), true)
	for _, g := range []api.Grant{
		give("a", "b/x", 0), give("a", "b/x", 4), give("a", "b/x", -1), give("a", "a/x", 1), give("a", "b", 1), give("a", "", 1),
		give("A", "b/x", 1), give("", "b/x", 1), give("a/x", "b/x", 1),
	} {
		checkRight(t, with(g), false)
	}
	checkRight(t, with(give("b", "a/x", 1), give("a", "b/x", 1)), false)
	checkRight(t, with(give("a", "b/y", 1), give("a", "b/x", 1)), false)
	checkRight(t, with(give("a", "b/x", 1), give("a", "b/x", 1)), false)
	checkRight(t, with(give("a", "b/x", 1), give("a", "b/x", 2)), false)
}

// TestRightOfGrantsOfNobody: the tenant that gave is one of the store's; to whom it gave need not be of one.
func TestRightOfGrantsOfNobody(t *testing.T) {
	for _, name := range []string{"aa", "a-", "b0", "d", "z"} {
		s := api.Store{Tenants: []api.Tenant{tenant("a"), tenant("b"), tenant("c")}, Grants: []api.Grant{give(name, "x/x", 1)}}
		checkRight(t, s, false)
		s.Grants = []api.Grant{give("a", name+"/x", 1)}
		checkRight(t, s, true)
	}
	checkRight(t, api.Store{Grants: []api.Grant{give("a", "b/x", 1)}}, false)
	all := tenants(8)
	for i := range all {
		l := []api.Grant{give(all[i].Name, "x/x", 1)}
		checkRight(t, api.Store{Tenants: all, Grants: l}, true)
		checkRight(t, api.Store{Tenants: slices.Delete(slices.Clone(all), i, i+1), Grants: l}, false)
	}
}
