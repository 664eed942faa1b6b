package acl

import (
	"slices"
	"testing"

	"scriptorium/api"
)

// given are grants of two tenants, of each right.
func given() []api.Grant {
	return []api.Grant{
		grant("a", "b/root", 2), grant("a", "b/x", 1), grant("a", "b/y", 2), grant("a", "b/z", 3), grant("a", "c/x", 3),
		grant("b", "a/root", 1), grant("b", "a/x", 3),
	}
}

func checkMay(t *testing.T, l []api.Grant, tenant, who string, want int) {
	t.Helper()
	if got := May(l, tenant, who); got != want {
		t.Errorf("May(%v, %.40q, %.40q) is %d, not %d", l, tenant, who, got, want)
	}
}

func TestMayOfExamples(t *testing.T) {
	checkMay(t, nil, "a", "a/root", 3)
	checkMay(t, nil, "a", "a/x", 2)
	checkMay(t, nil, "a", "b/root", 0)
	checkMay(t, []api.Grant{grant("a", "b/x", 1)}, "a", "b/x", 1)
}

// TestMayOfOwn: a tenant's own people have their rights whatever the grants are, if they are right.
func TestMayOfOwn(t *testing.T) {
	for _, l := range [][]api.Grant{nil, {}, {grant("a", "b/x", 1)}, {grant("b", "a/root", 1), grant("b", "a/x", 1)}, given(), grants(api.MaxGrants)} {
		for _, tenant := range []string{"a", "b", "t", "root", "a-b", many("a", 16)} {
			checkMay(t, l, tenant, tenant+"/root", api.Own)
			for _, own := range []string{"x", "a", "b", "roo", "root0", "root-", "rootroot", "r", "roor", many("x", 16)} {
				checkMay(t, l, tenant, tenant+"/"+own, api.Write)
			}
		}
	}
}

func TestMayOfOthers(t *testing.T) {
	for who, want := range map[string]int{
		"b/root": 2, "b/x": 1, "b/y": 2, "b/z": 3, "c/x": 3, "b/w": 0, "b/x0": 0, "b/x-": 0, "b/xx": 0, "bb/x": 0, "b-/x": 0, "b0/x": 0,
		"c/root": 0, "c/y": 0, "c/z": 0, "d/x": 0, "d/root": 0, "aa/x": 0, "aa/root": 0, "root/root": 0, "root/a": 0,
	} {
		checkMay(t, given(), "a", who, want)
	}
	for who, want := range map[string]int{"a/root": 1, "a/x": 3, "a/y": 0, "a/b": 0, "c/x": 0, "c/root": 0} {
		checkMay(t, given(), "b", who, want)
	}
	for _, who := range []string{"a/root", "a/x", "b/root", "b/x", "b/z"} {
		checkMay(t, given(), "c", who, 0)
		checkMay(t, given(), "aa", who, 0)
	}
	for _, who := range []string{"b/x", "b/root", "a/x", "c/x"} {
		checkMay(t, nil, "t", who, 0)
		checkMay(t, []api.Grant{}, "t", who, 0)
	}
}

// TestMayOfMany finds each of as many as may be.
func TestMayOfMany(t *testing.T) {
	for _, n := range []int{1, 2, 3, 63, 64} {
		l := grants(n)
		for _, g := range l {
			checkMay(t, l, g.Tenant, g.Who, g.Right)
			checkMay(t, l, g.Tenant, g.Who+"-", 0)
			checkMay(t, l, "s", g.Who, 0)
			checkMay(t, l, "u", g.Who, 0)
		}
		checkMay(t, l, "t", "p/root", 0)
		checkMay(t, l, "t", "p/a", 0)
		checkMay(t, l, "t", "p/z", 0)
	}
}

// TestMayOfTheWrong: no name, nobody.
func TestMayOfTheWrong(t *testing.T) {
	for _, l := range [][]api.Grant{nil, given()} {
		for _, tenant := range []string{"", "A", "9", "-", "-a", "a/", "/a", "a/b", " a", "a ", "a\n", "a\x00", "ä", "a\xff", many("a", 17), many("a", 1<<20)} {
			for _, who := range []string{"a/root", "a/x", "b/x", "b/root", "root", tenant, tenant + "/root", tenant + "/x", "/" + tenant} {
				checkMay(t, l, tenant, who, 0)
			}
		}
		for _, tenant := range []string{"a", "b", "c", "root", many("a", 16)} {
			for _, who := range []string{"", "a", "root", "/", "a/", "/root", "/a/root", "a//root", "a/root/", "a/root/x", "a/x/root", "A/root", "a/Root", "a/root ", " a/root", "a/root\n", "a\\root", "a/\xff", "a/" + many("x", 17), many("a", 16), many("a", 17) + "/root", "b", "b/", "b/x/", "b/x ", "b/X", "b//x", many("a/", 1<<20)} {
				checkMay(t, l, tenant, who, 0)
			}
		}
	}
}

// TestMayOfGrantsNotRight: nobody may anything then, not even in their own tenant.
func TestMayOfGrantsNotRight(t *testing.T) {
	for _, l := range [][]api.Grant{
		{{}}, {grant("a", "a/x", 1)}, {grant("a", "a/root", 3)}, {grant("A", "b/x", 1)}, {grant("a", "b", 1)}, {grant("a", "b/x", 0)}, {grant("a", "b/x", 4)}, {grant("a", "b/x", -1)},
		{grant("a", "b/x", 1), grant("a", "b/x", 1)}, {grant("a", "b/y", 1), grant("a", "b/x", 1)}, {grant("b", "a/x", 3), grant("a", "b/x", 3)},
		append(given(), grant("a", "b/x", 1)), append(given(), grant("z", "a/x", 0)), slices.Insert(given(), 0, grant("a", "a/a", 1)), grants(65), grants(100),
	} {
		for _, tenant := range []string{"a", "b", "t", "c"} {
			for _, who := range []string{"a/root", "a/x", "b/root", "b/x", "b/y", "t/root", "t/x", "c/root", "c/x", "p/x000", "p/x064"} {
				checkMay(t, l, tenant, who, 0)
			}
		}
	}
}

// TestMayOfBytes has every byte at each place of somebody who has a right.
func TestMayOfBytes(t *testing.T) {
	for _, s := range []string{"b/z", "a/root", "a/x"} {
		want := May(given(), "a", s)
		for at := range len(s) {
			for c := range 256 {
				who := s[:at] + string([]byte{byte(c)}) + s[at+1:]
				m := somebody.FindStringSubmatch(who)
				switch {
				case who == s:
					checkMay(t, given(), "a", who, want)
				case m == nil:
					checkMay(t, given(), "a", who, 0)
				case m[1] == "a":
					checkMay(t, given(), "a", who, 2)
				case !slices.ContainsFunc(given(), func(g api.Grant) bool { return g.Tenant == "a" && g.Who == who }):
					checkMay(t, given(), "a", who, 0)
				}
			}
		}
	}
}
