package docs

import (
	"slices"
	"testing"

	"scriptorium/api"
)

func making(who, tenant string) api.Command {
	return api.Command{Op: api.OpMake, Who: who, Tenant: tenant}
}

func TestMakeOfExamples(t *testing.T) {
	checkApply(t, api.Store{}, making("a/root", "a"), store(tenant("a")), api.Answer{})
	checkRefused(t, api.Store{}, making("a/x", "a"), api.ErrDeny)
}

// TestMakeAtEachPlace: names rise behind it, and all others are as they were.
func TestMakeAtEachPlace(t *testing.T) {
	was := some()
	for name, at := range map[string]int{"a-": 1, "a0": 1, "aa": 1, "ab": 1, "b-": 2, "bb": 2, "c-": 3, "d": 3, "zzzzzzzzzzzzzzzz": 3} {
		want := some()
		want.Tenants = slices.Insert(want.Tenants, at, tenant(name))
		checkApply(t, was, making(name+"/root", name), want, api.Answer{})
	}
	checkApply(t, store(tenant("b")), making("a/root", "a"), store(tenant("a"), tenant("b")), api.Answer{})
}

func TestMakeOfMany(t *testing.T) {
	for n := range 9 {
		s := store(tenants(n)...)
		for _, name := range []string{"a", "t", "t000", "t03-", "z"} {
			if n == 8 {
				checkRefused(t, s, making(name+"/root", name), api.ErrMany)
				continue
			}
			want := store(append(tenants(n), tenant(name))...)
			slices.SortFunc(want.Tenants, func(a, b api.Tenant) int { return slices.Compare([]byte(a.Name), []byte(b.Name)) })
			checkApply(t, s, making(name+"/root", name), want, api.Answer{})
		}
	}
}

// TestMakeDenied: nobody but the root of just that tenant, be it there, and be there as many as may be.
func TestMakeDenied(t *testing.T) {
	for _, s := range []api.Store{{}, some(), store(tenants(8)...)} {
		for _, name := range []string{"a", "c", "new", "root", "t00"} {
			for _, who := range []string{name + "/x", name + "/roo", name + "/root-", "b/root", "z/root", "b/owns", name + "x/root", "root/" + name, "x/" + name} {
				if who != name+"/root" {
					checkRefused(t, s, making(who, name), api.ErrDeny)
				}
			}
		}
	}
}

func TestMakeOfWhatThereIs(t *testing.T) {
	for _, s := range []api.Store{some(), store(tenants(1)...), store(tenants(7)...), store(tenants(8)...)} {
		for _, there := range s.Tenants {
			checkRefused(t, s, making(there.Name+"/root", there.Name), api.ErrHave)
		}
	}
}

// TestMakeIsRead: behind it the tenant's people have their rights.
func TestMakeIsRead(t *testing.T) {
	s, _ := Apply(some(), making("new/root", "new"))
	checkTold(t, s, api.Command{Op: api.OpList, Who: "new/x", Tenant: "new"}, api.Answer{})
	checkRefused(t, s, api.Command{Op: api.OpList, Who: "a/root", Tenant: "new"}, api.ErrDeny)
	checkRefused(t, s, making("new/root", "new"), api.ErrHave)
}
