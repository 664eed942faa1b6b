package docs

import (
	"slices"
	"testing"

	"scriptorium/api"
)

func deleting(doc string) api.Command {
	return api.Command{Op: api.OpDelete, Who: "a/x", Tenant: "a", Doc: doc}
}

// TestDeleteAtEachPlace: that one is gone, and no other one changes.
func TestDeleteAtEachPlace(t *testing.T) {
	for n := 1; n <= 8; n++ {
		for i, d := range docsOf(n, 3) {
			other := tenant("b", docsOf(8, 2)...)
			want := store(tenant("a", slices.Delete(docsOf(n, 3), i, i+1)...), other)
			checkApply(t, store(tenant("a", docsOf(n, 3)...), other), deleting(d.Name), want, api.Answer{})
			checkRefused(t, want, deleting(d.Name), api.ErrNone)
		}
	}
}

func TestDeleteOfNone(t *testing.T) {
	for _, s := range []api.Store{store(tenant("a")), some(), store(tenant("a", docsOf(8, 1)...), tenant("b", doc("none", 1, "")))} {
		for _, name := range []string{"none", "a", "dd", "d-", "z"} {
			checkRefused(t, s, deleting(name), api.ErrNone)
		}
	}
}

// TestDeleteLeavesGrants: they are a tenant's, not a document's.
func TestDeleteLeavesGrants(t *testing.T) {
	want := some()
	want.Tenants[0].Docs = want.Tenants[0].Docs[1:]
	checkApply(t, some(), deleting("d"), want, api.Answer{})
}

// TestPutBehindDelete: a new document of that name begins with the number 1, and has nothing of the old one.
func TestPutBehindDelete(t *testing.T) {
	for _, d := range []api.Doc{doc("d", 1, "x"), doc("d", 9, texts(8, 4096)...), doc("d", 999999, "x")} {
		s, answer := Apply(store(tenant("a", d)), deleting("d"))
		if answer.Err != api.OK {
			t.Fatal(answer)
		}
		for _, c := range []api.Command{
			{Op: api.OpGet, Who: "a/x", Tenant: "a", Doc: "d"}, {Op: api.OpGet, Who: "a/x", Tenant: "a", Doc: "d", Version: d.Last},
			{Op: api.OpHistory, Who: "a/x", Tenant: "a", Doc: "d"}, {Op: api.OpRender, Who: "a/x", Tenant: "a", Doc: "d"},
		} {
			checkRefused(t, s, c, api.ErrNone)
		}
		checkRefused(t, s, putting("d", d.Last, "new"), api.ErrCas)
		for _, version := range []int{0, -1} {
			checkApply(t, s, putting("d", version, "new"), store(tenant("a", doc("d", 1, "new"))), api.Answer{Version: 1})
		}
	}
	// What is gone makes room.
	s, _ := Apply(store(tenant("a", docsOf(8, 4096)...)), deleting("d03"))
	if _, a := apply(t, s, putting("new", 0, many(4096))); a.Err != api.OK || a.Version != 1 {
		t.Errorf("behind OpDelete there is no room: %+v", a)
	}
}
