package acl

import (
	"slices"
	"strconv"
	"testing"

	"scriptorium/api"
)

func checkTenants(t *testing.T, l []api.Grant, all []string, who string, want ...string) {
	t.Helper()
	was, names := slices.Clone(l), slices.Clone(all)
	if got := Tenants(l, all, who); !slices.Equal(got, want) {
		t.Errorf("Tenants(%v, %q, %q) are %q, not %q", l, all, who, got, want)
	}
	if !slices.Equal(l, was) || !slices.Equal(all, names) {
		t.Errorf("Tenants(%v, %q, %q) has left %v, %q", was, names, who, l, all)
	}
}

func TestTenants(t *testing.T) {
	abc := []string{"a", "b", "c"}
	checkTenants(t, given(), abc, "a/x", "a", "b")
	checkTenants(t, given(), abc, "a/root", "a", "b")
	checkTenants(t, given(), abc, "a/y", "a")
	checkTenants(t, given(), abc, "b/x", "a", "b")
	checkTenants(t, given(), abc, "b/y", "a", "b")
	checkTenants(t, given(), abc, "b/z", "a", "b")
	checkTenants(t, given(), abc, "b/w", "b")
	checkTenants(t, given(), abc, "c/x", "a", "c")
	checkTenants(t, given(), abc, "c/root", "c")
	checkTenants(t, given(), abc, "d/x")
	checkTenants(t, given(), abc, "d/root")
	checkTenants(t, nil, abc, "a/x", "a")
	checkTenants(t, nil, abc, "b/root", "b")
	checkTenants(t, nil, abc, "d/root")
	checkTenants(t, nil, nil, "a/root")
	checkTenants(t, given(), nil, "a/root")
	checkTenants(t, given(), []string{}, "b/z")
}

// TestTenantsInOrder: as they stand in all, and as often.
func TestTenantsInOrder(t *testing.T) {
	l := []api.Grant{grant("a", "x/y", 1), grant("b", "x/y", 2), grant("c", "x/y", 3)}
	for _, all := range [][]string{
		{"a", "b", "c", "x"}, {"x", "c", "b", "a"}, {"b", "x", "a", "c"}, {"c", "a", "x"}, {"x"}, {"b"},
		{"a", "a"}, {"x", "x", "x"}, {"b", "a", "b"}, {"c", "x", "c", "a", "c", "a"},
	} {
		checkTenants(t, l, all, "x/y", all...)
		with := []string{"d"}
		for _, s := range all {
			with = append(with, s, "d", "")
		}
		checkTenants(t, l, with, "x/y", all...)
	}
	checkTenants(t, l, []string{"a", "x", "a", "b"}, "x/z", "x")
	checkTenants(t, l, []string{"a", "x", "a", "x"}, "x/root", "x", "x")
}

// TestTenantsOfTheWrong: what is no name is none of them; nobody may read, nor anybody by grants that are not right.
func TestTenantsOfTheWrong(t *testing.T) {
	all := []string{"", "A", "a/", "a ", "a", " a", "a\n", "9", many("a", 17), "a/x", "b"}
	checkTenants(t, given(), all, "a/x", "a", "b")
	checkTenants(t, nil, all, "a/x", "a")
	for _, who := range []string{"", "a", "b", "/", "a/", "/a", "a/x/", "a//x", "A/x", "a/X", "root", "9/x", "/root", many("a", 17) + "/x"} {
		checkTenants(t, nil, all, who)
		checkTenants(t, given(), all, who)
	}
	for _, l := range [][]api.Grant{{{}}, {grant("a", "b/x", 0)}, {grant("a", "a/x", 1)}, {grant("a", "b/x", 4)}, {grant("b", "a/x", 1), grant("a", "b/x", 1)}, {grant("a", "b/x", 1), grant("a", "b/x", 1)}, grants(65)} {
		for _, who := range []string{"a/x", "a/root", "b/x", "b/root", "t/root", "p/x000"} {
			checkTenants(t, l, []string{"a", "b", "t", "p"}, who)
		}
	}
}

func TestTenantsOfMany(t *testing.T) {
	var l []api.Grant
	var all, want []string
	for i := range api.MaxGrants {
		name := "t" + strconv.Itoa(100+i)
		l = append(l, grant(name, "x/y", 1+i%3))
		all = append(all, "s"+name, name)
		want = append(want, name)
	}
	checkTenants(t, l, all, "x/y", want...)
	checkTenants(t, l, all, "x/z")
	checkTenants(t, append(l, grant("u", "x/y", 1)), all, "x/y")
	twice := slices.Repeat([]string{"a", "t100", "x"}, 100000)
	if got := Tenants(l, twice, "x/y"); len(got) != 200000 {
		t.Errorf("Tenants of many are %d", len(got))
	}
}

// TestTenantsSharesNothing: what is told is the caller's.
func TestTenantsSharesNothing(t *testing.T) {
	room := []string{"a", "b", "c", "kept"}
	all := room[:3]
	l := given()
	one, two := Tenants(l, all, "b/x"), Tenants(l, all, "b/x")
	one = one[:cap(one)]
	for i := range one {
		one[i] = "z"
	}
	if !slices.Equal(room, []string{"a", "b", "c", "kept"}) || !slices.Equal(two, []string{"a", "b"}) || !slices.Equal(l, given()) {
		t.Errorf("what Tenants told is shared: %q, %q, %v", room, two, l)
	}
	room[0], room[1] = "y", "y"
	if !slices.Equal(two, []string{"a", "b"}) {
		t.Errorf("what Tenants told is %q", two)
	}
}
