package docs

import (
	"slices"
	"testing"

	"scriptorium/acl"
	"scriptorium/api"
)

func granting(who, tenant, target string, right int) api.Command {
	return api.Command{Op: api.OpGrant, Who: who, Tenant: tenant, Target: target, Right: right}
}

func TestGrantOfExample(t *testing.T) {
	s := store(tenant("a", doc("d", 2, "*1*", "*1*")))
	behind := store(tenant("a", doc("d", 2, "*1*", "*1*")))
	behind.Grants = []api.Grant{give("a", "b/x", 1)}
	checkApply(t, s, granting("a/root", "a", "b/x", 1), behind, api.Answer{})
}

// TestGrantIsSet: the grants are what acl's Set says, to whomever, of each right, and nothing else changes.
func TestGrantIsSet(t *testing.T) {
	targets := append(wrongPeople(), "a/x", "a/root", "b/x", "b/owns", "b/reads", "b/root", "c/x", "z/root", "gone/x", "aa/x")
	for _, who := range []string{"a/root", "b/owns"} {
		for _, target := range targets {
			for _, right := range []int{-1, 0, 1, 2, 3, 4} {
				want := some()
				set, err := acl.Set(want.Grants, give("a", target, right))
				if err != api.OK {
					checkRefused(t, some(), granting(who, "a", target, right), err)
					continue
				}
				want.Grants = set
				checkApply(t, some(), granting(who, "a", target, right), want, api.Answer{})
			}
		}
	}
}

func TestGrantOfWrongOnes(t *testing.T) {
	for _, target := range []string{"", "b", "b/", "/x", "a/x", "a/root", "B/x", "b/x/y"} {
		for _, right := range []int{0, 1, 3} {
			checkRefused(t, some(), granting("a/root", "a", target, right), api.ErrArg)
		}
	}
	for _, right := range []int{-1, 4, 100} {
		checkRefused(t, some(), granting("a/root", "a", "b/x", right), api.ErrArg)
		checkRefused(t, some(), granting("a/x", "a", "b/x", right), api.ErrDeny)
	}
}

func TestGrantOfMany(t *testing.T) {
	for _, n := range []int{0, 62, 63, 64} {
		s := api.Store{Tenants: tenants(2), Grants: grants("t01", n)}
		c := granting("t01/root", "t01", "z/x", 2)
		gone := granting("t01/root", "t01", "z/x", 0)
		checkApply(t, s, gone, s, api.Answer{})
		if n == 64 {
			checkRefused(t, s, c, api.ErrMany)
			checkRefused(t, s, granting("t00/root", "t00", "z/x", 2), api.ErrMany)
			continue
		}
		want := api.Store{Tenants: tenants(2), Grants: append(grants("t01", n), give("t01", "z/x", 2))}
		checkApply(t, s, c, want, api.Answer{})
		checkApply(t, want, gone, s, api.Answer{})
		want.Grants = slices.Insert(grants("t01", n), 0, give("t00", "z/x", 2))
		checkApply(t, s, granting("t00/root", "t00", "z/x", 2), want, api.Answer{})
	}
	full := api.Store{Tenants: tenants(2), Grants: grants("t01", 64)}
	want := api.Store{Tenants: tenants(2), Grants: grants("t01", 64)}
	want.Grants[17].Right = 3
	checkApply(t, full, granting("t01/root", "t01", want.Grants[17].Who, 3), want, api.Answer{})
	want.Grants = slices.Delete(want.Grants, 17, 18)
	checkApply(t, full, granting("t01/root", "t01", full.Grants[17].Who, 0), want, api.Answer{})
}

// TestGrantIsRead: what was given may be done, till it is taken away; who was let own lets others in, and out.
func TestGrantIsRead(t *testing.T) {
	s := store(tenant("a", doc("d", 1, "text")))
	get := api.Command{Op: api.OpGet, Who: "b/x", Tenant: "a", Doc: "d"}
	put := api.Command{Op: api.OpPut, Who: "b/x", Tenant: "a", Doc: "d", Text: "new", Version: -1}
	let := granting("b/x", "a", "c/y", 1)
	for right, may := range [][3]bool{{}, {true}, {true, true}, {true, true, true}, {}} {
		given, answer := Apply(s, granting("a/root", "a", "b/x", right%4))
		if answer.Err != api.OK {
			t.Fatal(answer)
		}
		for i, c := range []api.Command{get, put, let} {
			want := api.ErrDeny
			if may[i] {
				want = api.OK
			}
			if _, a := apply(t, given, c); a.Err != want {
				t.Errorf("behind a right of %d, %+v answers %v", right%4, c, a.Err)
			}
		}
		gone, _ := Apply(given, granting("a/root", "a", "b/x", 0))
		for _, c := range []api.Command{get, put, let} {
			checkRefused(t, gone, c, api.ErrDeny)
		}
	}
	s.Grants = []api.Grant{give("a", "b/x", 3)}
	checkApply(t, s, granting("b/x", "a", "b/x", 0), store(tenant("a", doc("d", 1, "text"))), api.Answer{})
}
