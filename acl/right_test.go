package acl

import (
	"fmt"
	"slices"
	"testing"

	"scriptorium/api"
)

// grant is one of a tenant to somebody.
func grant(tenant, who string, right int) api.Grant {
	return api.Grant{Tenant: tenant, Who: who, Right: right}
}

// grants are n of tenant t to n people of p, in their order.
func grants(n int) []api.Grant {
	var l []api.Grant
	for i := range n {
		l = append(l, grant("t", fmt.Sprintf("p/x%03d", i), 1+i%3))
	}
	return l
}

func TestRight(t *testing.T) {
	for _, l := range [][]api.Grant{
		nil, {},
		{grant("a", "b/x", 1)}, {grant("a", "b/x", 2)}, {grant("a", "b/x", 3)}, {grant("a", "b/root", 1)}, {grant("root", "a/root", 3)},
		{grant(many("a", 16), many("b", 16)+"/"+many("x", 16), 1)}, {grant("a", "aa/x", 1)}, {grant("aa", "a/x", 1)}, {grant("a", "a-/a", 1)},
		{grant("a", "b/x", 1), grant("a", "b/y", 1)},
		{grant("a", "b/x", 3), grant("a", "b/y", 1)},
		{grant("a", "b/x", 1), grant("a", "c/x", 1)},
		{grant("a", "c/x", 1), grant("b", "c/x", 1)},
		{grant("a", "c/z", 1), grant("b", "a/a", 1)},
		{grant("a", "b/x", 1), grant("b", "a/x", 1)},
		{grant("a", "b/x", 1), grant("a", "b/x-", 1)},
		{grant("a", "b/x", 1), grant("a", "b/x0", 1), grant("a", "b/xx", 1)},
		{grant("a", "c/x", 1), grant("a-", "c/x", 1), grant("a0", "c/x", 1), grant("aa", "c/x", 1), grant("b", "c/x", 1)},
		// The whole of Who counts, byte by byte: a hyphen stands below a slash, a digit above it.
		{grant("a", "b-/x", 1), grant("a", "b/x", 1), grant("a", "b0/x", 1), grant("a", "bb/x", 1)},
		{grant("a", "b/x10", 1), grant("a", "b/x9", 1)},
		{grant("b", "a/x", 1), grant("b", "c/x", 2), grant("c", "a/x", 3), grant("c", "b/x", 1)},
	} {
		if !Right(l) {
			t.Errorf("Right(%v) is false", l)
		}
	}
}

func TestNotRight(t *testing.T) {
	for _, l := range [][]api.Grant{
		{{}}, {grant("", "b/x", 1)}, {grant("A", "b/x", 1)}, {grant("9", "b/x", 1)}, {grant("-", "b/x", 1)}, {grant("a/", "b/x", 1)}, {grant("a/x", "b/x", 1)},
		{grant(" a", "b/x", 1)}, {grant("a\n", "b/x", 1)}, {grant("ä", "b/x", 1)}, {grant("a\xff", "b/x", 1)}, {grant(many("a", 17), "b/x", 1)},
		{grant("a", "", 1)}, {grant("a", "b", 1)}, {grant("a", "/", 1)}, {grant("a", "b/", 1)}, {grant("a", "/x", 1)}, {grant("a", "b/x/", 1)}, {grant("a", "b/x/y", 1)}, {grant("a", "b//x", 1)},
		{grant("a", "B/x", 1)}, {grant("a", "b/X", 1)}, {grant("a", many("b", 17)+"/x", 1)}, {grant("a", "b/"+many("x", 17), 1)},
		{grant("a", "a/x", 1)}, {grant("a", "a/root", 3)}, {grant("b", "b/b", 2)}, {grant(many("a", 16), many("a", 16)+"/x", 1)},
		{grant("a", "b/x", 0)}, {grant("a", "b/x", -1)}, {grant("a", "b/x", 4)}, {grant("a", "b/x", 1<<62)}, {grant("a", "b/x", -1<<63)}, {grant("a", "b/x", 257)}, {grant("a", "b/x", 1<<32+1)},
		{grant("a", "b/x", 1), grant("a", "b/x", 1)},
		{grant("a", "b/x", 1), grant("a", "b/x", 2)},
		{grant("a", "b/x", 2), grant("a", "b/x", 1)},
		{grant("a", "b/y", 1), grant("a", "b/x", 1)},
		{grant("a", "b/y", 1), grant("a", "b/x", 3)},
		{grant("a", "c/x", 1), grant("a", "b/x", 1)},
		{grant("b", "a/x", 1), grant("a", "b/x", 1)},
		{grant("b", "c/x", 1), grant("a", "c/x", 1)},
		{grant("b", "c/a", 1), grant("a", "c/z", 1)},
		{grant("aa", "b/x", 1), grant("a", "b/x", 1)},
		{grant("a", "b/xx", 1), grant("a", "b/x", 1)},
		{grant("a", "b/x9", 1), grant("a", "b/x10", 1)},
		{grant("a", "b/x", 1), grant("a", "b-/x", 1)},
		{grant("a", "b0/x", 1), grant("a", "b/x", 1)},
		{grant("a", "b/x", 1), grant("b", "a/x", 1), grant("a", "b/y", 1)},
		{grant("a", "b/x", 1), grant("b", "a/x", 1), grant("a", "b/x", 1)},
	} {
		if Right(l) {
			t.Errorf("Right(%v) is true", l)
		}
	}
}

func TestRightOfMany(t *testing.T) {
	for _, n := range []int{0, 1, 2, 62, 63, 64} {
		if !Right(grants(n)) {
			t.Errorf("Right of %d is false", n)
		}
	}
	for _, n := range []int{65, 66, 128, 500} {
		if Right(grants(n)) {
			t.Errorf("Right of %d is true", n)
		}
	}
	if Right(make([]api.Grant, 1000000)) {
		t.Errorf("Right of a million is true")
	}
}

// TestOneWrongOfMany has one wrong grant at each place of as many as may be.
func TestOneWrongOfMany(t *testing.T) {
	wrong := []func(g *api.Grant){
		func(g *api.Grant) { g.Right = 0 },
		func(g *api.Grant) { g.Right = 4 },
		func(g *api.Grant) { g.Right = -1 },
		func(g *api.Grant) { g.Tenant = "p" },
		func(g *api.Grant) { g.Tenant = "" },
		func(g *api.Grant) { g.Tenant = "T" },
		func(g *api.Grant) { g.Who = "t" + g.Who[1:] },
		func(g *api.Grant) { g.Who = g.Who[2:] },
		func(g *api.Grant) { g.Who += "/" },
		func(g *api.Grant) { g.Who = "" },
	}
	for at := range api.MaxGrants {
		for i, spoil := range wrong {
			l := grants(api.MaxGrants)
			spoil(&l[at])
			if Right(l) {
				t.Errorf("Right of %d with %d spoilt by %d is true", len(l), at, i)
			}
		}
		if at == 0 {
			continue
		}
		l := grants(api.MaxGrants)
		l[at-1], l[at] = l[at], l[at-1]
		if Right(l) {
			t.Errorf("Right with %d ahead of %d is true", at, at-1)
		}
		l = grants(api.MaxGrants)
		l[at].Who = l[at-1].Who
		if Right(l) {
			t.Errorf("Right with %d as %d is true", at, at-1)
		}
		if l = slices.Delete(grants(api.MaxGrants), at-1, at); !Right(l) {
			t.Errorf("Right without %d is false", at-1)
		}
	}
}

// TestRightOfBytes has every byte at each place of a Tenant and a Who.
func TestRightOfBytes(t *testing.T) {
	for c := range 256 {
		b := string([]byte{byte(c)})
		for at := range 3 {
			tenant, who := "ab"[:min(at, 2)]+b+"ab"[min(at, 2):], "b/x"[:at]+b+"b/x"[at:]
			if want := somebody.MatchString(tenant + "/x"); Right([]api.Grant{grant(tenant, "b/x", 1)}) != want {
				t.Errorf("Right of the tenant %q is not %v", tenant, want)
			}
			if want := somebody.MatchString(who); Right([]api.Grant{grant("a", who, 1)}) != want {
				t.Errorf("Right of %q is not %v", who, want)
			}
		}
	}
}
