package docs

import (
	"math"
	"strconv"
	"testing"

	"scriptorium/api"
)

func getting(op int, doc string, version int) api.Command {
	return api.Command{Op: op, Who: "a/x", Tenant: "a", Doc: doc, Version: version}
}

// kept is a store with a document of which some versions are gone.
func kept() api.Store {
	var l []string
	for n := 5; n <= 12; n++ {
		l = append(l, "text "+strconv.Itoa(n))
	}
	return store(tenant("a", doc("c", 1, "c"), doc("d", 12, l...), doc("e", 999999, "e")), tenant("b", doc("x", 1, "b's")))
}

// TestGetOfVersions has those that are kept, those that are gone, and those that were never there.
func TestGetOfVersions(t *testing.T) {
	for version := -3; version <= 20; version++ {
		text := "text " + strconv.Itoa(version)
		switch {
		case version == 0:
			checkTold(t, kept(), getting(api.OpGet, "d", version), api.Answer{Version: 12, Text: "text 12"})
			checkTold(t, kept(), getting(api.OpRender, "d", version), api.Answer{Version: 12, Text: "<p>text 12</p>\n"})
		case 5 <= version && version <= 12:
			checkTold(t, kept(), getting(api.OpGet, "d", version), api.Answer{Version: version, Text: text})
			checkTold(t, kept(), getting(api.OpRender, "d", version), api.Answer{Version: version, Text: "<p>" + text + "</p>\n"})
		default:
			checkRefused(t, kept(), getting(api.OpGet, "d", version), api.ErrNone)
			checkRefused(t, kept(), getting(api.OpRender, "d", version), api.ErrNone)
		}
	}
	for _, version := range []int{math.MaxInt, math.MinInt, 1 << 32, 1<<32 + 5, 999999, 1000000} {
		checkRefused(t, kept(), getting(api.OpGet, "d", version), api.ErrNone)
		checkRefused(t, kept(), getting(api.OpRender, "d", version), api.ErrNone)
	}
	for _, version := range []int{0, 999999} {
		checkTold(t, kept(), getting(api.OpGet, "e", version), api.Answer{Version: 999999, Text: "e"})
		checkTold(t, kept(), getting(api.OpRender, "e", version), api.Answer{Version: 999999, Text: "<p>e</p>\n"})
	}
}

// TestGetOfNone: a document of another tenant is none of this one's.
func TestGetOfNone(t *testing.T) {
	for _, op := range []int{api.OpGet, api.OpHistory, api.OpRender} {
		for _, name := range []string{"x", "none", "a", "d-", "dd", "z"} {
			for _, version := range []int{-1, 0, 1, 12} {
				checkRefused(t, kept(), getting(op, name, version), api.ErrNone)
				checkRefused(t, store(tenant("a")), getting(op, name, version), api.ErrNone)
			}
		}
	}
}

// TestGetIsTheText: of any bytes, as they were put.
func TestGetIsTheText(t *testing.T) {
	for _, text := range []string{"", "\x00\xff", "{{include b/x}}\n", " a\r\n\tb ", many(4096)} {
		checkTold(t, store(tenant("a", doc("d", 3, text))), getting(api.OpGet, "d", 0), api.Answer{Version: 3, Text: text})
		checkTold(t, store(tenant("a", doc("d", 3, text, "last"))), getting(api.OpGet, "d", 2), api.Answer{Version: 2, Text: text})
	}
}

func TestList(t *testing.T) {
	list := api.Command{Op: api.OpList, Who: "a/x", Tenant: "a"}
	for n := range 9 {
		var want []string
		if n > 0 {
			want = names("d", n)
		}
		s := store(tenant("a", docsOf(n, 1)...), tenant("b", doc("other", 1, "")))
		checkTold(t, s, list, api.Answer{List: want})
	}
	checkTold(t, some(), list, api.Answer{List: []string{"d", "e"}})
	for who, tenants := range map[string]string{"b/reads": "a", "z/root": "a", "b/x": "b", "a/reads": "b", "c/x": "c"} {
		want := map[string][]string{"a": {"d", "e"}, "b": {"d"}, "c": nil}[tenants]
		checkTold(t, some(), api.Command{Op: api.OpList, Who: who, Tenant: tenants}, api.Answer{List: want})
	}
}

func TestHistory(t *testing.T) {
	checkTold(t, kept(), getting(api.OpHistory, "d", 0), api.Answer{Version: 12, List: []string{"5", "6", "7", "8", "9", "10", "11", "12"}})
	checkTold(t, kept(), getting(api.OpHistory, "d", 5), api.Answer{Version: 12, List: []string{"5", "6", "7", "8", "9", "10", "11", "12"}})
	checkTold(t, kept(), getting(api.OpHistory, "c", 0), api.Answer{Version: 1, List: []string{"1"}})
	checkTold(t, kept(), getting(api.OpHistory, "e", 0), api.Answer{Version: 999999, List: []string{"999999"}})
	s := store(tenant("a", doc("d", 100001, "", "", "")))
	checkTold(t, s, getting(api.OpHistory, "d", 0), api.Answer{Version: 100001, List: []string{"99999", "100000", "100001"}})
	s = store(tenant("a", doc("d", 2, "*1*", "*1*")))
	checkTold(t, s, getting(api.OpHistory, "d", 0), api.Answer{Version: 2, List: []string{"1", "2"}})
}

func TestPages(t *testing.T) {
	page := func(tenant, doc string, version int, text string) api.Page {
		return api.Page{Ref: api.Ref{Tenant: tenant, Doc: doc, Version: version}, Text: text}
	}
	checkPages(t, api.Store{})
	checkPages(t, store(tenants(8)...))
	s := store(tenant("a", doc("d", 3, "2", "3"), doc("e", 1, "")), tenant("b"), tenant("c", doc("a", 999999, "c")))
	checkPages(t, s, page("a", "d", 2, "2"), page("a", "d", 3, "3"), page("a", "e", 1, ""), page("c", "a", 999999, "c"))
	// They are told as they stand, also of a store that is not right.
	wrong := store(tenant("Z", doc("e", 1, "e", "f"), doc("d", 0, "d")), tenant("Z", doc("e", -4, many(5000))))
	checkPages(t, wrong, page("Z", "e", 0, "e"), page("Z", "e", 1, "f"), page("Z", "d", 0, "d"), page("Z", "e", -4, many(5000)))
	var full []api.Tenant
	for _, name := range names("t", 8) {
		var docs []api.Doc
		for _, d := range names("d", 8) {
			docs = append(docs, doc(d, 9, texts(8, 512)...))
		}
		full = append(full, tenant(name, docs...))
	}
	pages := Pages(store(full...))
	if len(pages) != 512 {
		t.Fatalf("there are %d pages", len(pages))
	}
	for i, p := range pages {
		if p != page(full[i/64].Name, full[i/64].Docs[i/8%8].Name, 2+i%8, many(512)) {
			t.Errorf("the page %d is %+v", i, p.Ref)
		}
	}
}

func checkPages(t *testing.T, s api.Store, want ...api.Page) {
	t.Helper()
	in := roomy(s)
	was := toldRoom(in)
	got := Pages(in)
	if len(got) != len(want) {
		t.Fatalf("Pages are %v, not %v", got, want)
	}
	for i := range want {
		if got[i] != want[i] {
			t.Errorf("the page %d is %v, not %v", i, got[i], want[i])
		}
	}
	fill(whole(got), api.Page{Text: "over"})
	if toldRoom(in) != was {
		t.Errorf("Pages of %.200s changed it", told(s))
	}
}
