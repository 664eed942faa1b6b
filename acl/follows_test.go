package acl

import (
	"slices"
	"strings"
	"testing"

	"scriptorium/api"
)

// whom is a tenant and somebody to whom it may have given a right.
type whom struct{ tenant, who string }

// otherRead reads grants once more, as rights by whom; false, if they are not right.
func otherRead(l []api.Grant) (map[whom]int, bool) {
	rights := map[whom]int{}
	last := ""
	for _, g := range l {
		// The byte 1 parts the two, as it stands below all of which names are made.
		key := g.Tenant + "\x01" + g.Who
		if !otherFits(g) || g.Right == 0 || key <= last {
			return nil, false
		}
		rights[whom{g.Tenant, g.Who}], last = g.Right, key
	}
	return rights, len(rights) <= 64
}

// otherFits tells whether g may be Set.
func otherFits(g api.Grant) bool {
	m := somebody.FindStringSubmatch(g.Who)
	return m != nil && somebody.MatchString(g.Tenant+"/x") && !strings.HasPrefix(g.Who, g.Tenant+"/") && g.Right >= 0 && g.Right < 4
}

// otherMay reads May once more, by the rights of grants that are right.
func otherMay(rights map[whom]int, tenant, who string) int {
	m := somebody.FindStringSubmatch(who)
	if m == nil || !somebody.MatchString(tenant+"/x") {
		return 0
	}
	if m[1] == tenant {
		if who == tenant+"/root" {
			return 3
		}
		return 2
	}
	return rights[whom{tenant, who}]
}

// otherSet reads Set once more: all grants are put in and sorted anew.
func otherSet(rights map[whom]int, g api.Grant) ([]api.Grant, api.Errno) {
	var l []api.Grant
	for w, right := range rights {
		if w != (whom{g.Tenant, g.Who}) {
			l = append(l, grant(w.tenant, w.who, right))
		}
	}
	if g.Right > 0 {
		l = append(l, g)
	}
	if len(l) > 64 {
		return nil, api.ErrMany
	}
	slices.SortFunc(l, func(a, b api.Grant) int {
		if a.Tenant != b.Tenant {
			return strings.Compare(a.Tenant, b.Tenant)
		}
		return strings.Compare(a.Who, b.Who)
	})
	return l, api.OK
}

// eachList calls f with every list of at most most of these grants.
func eachList(pool []api.Grant, most int, f func([]api.Grant)) {
	var add func(l []api.Grant)
	add = func(l []api.Grant) {
		f(l)
		if len(l) == most {
			return
		}
		for _, g := range pool {
			add(append(slices.Clone(l), g))
		}
	}
	add(nil)
}

// poolOf are the grants of each of these tenants, people and rights.
func poolOf(tenants, people []string, rights ...int) []api.Grant {
	var l []api.Grant
	for _, tenant := range tenants {
		for _, who := range people {
			for _, right := range rights {
				l = append(l, grant(tenant, who, right))
			}
		}
	}
	return l
}

// checkAll holds all calls with l against the other reading.
func checkAll(t *testing.T, l, sets []api.Grant, tenants, people []string) {
	t.Helper()
	rights, right := otherRead(l)
	if Right(l) != right {
		t.Errorf("Right(%v) is not %v", l, right)
	}
	for _, who := range people {
		var read []string
		for _, tenant := range tenants {
			want := 0
			if right {
				want = otherMay(rights, tenant, who)
			}
			checkMay(t, l, tenant, who, want)
			if want > 0 {
				read = append(read, tenant)
			}
		}
		checkTenants(t, l, tenants, who, read...)
	}
	for _, g := range sets {
		if !right || !otherFits(g) {
			checkSetError(t, l, g, api.ErrArg)
		} else if want, e := otherSet(rights, g); e != api.OK {
			checkSetError(t, l, g, e)
		} else {
			checkSet(t, l, g, want...)
		}
	}
}

// TestAllShortLists: right and not right, with all that may and may not be Set.
func TestAllShortLists(t *testing.T) {
	tenants, people := []string{"a", "b", "B"}, []string{"a/x", "b/x", "b/root", "b", "b/x/"}
	pool := poolOf(tenants, people, 0, 1, 3, 4)
	eachList(pool, 2, func(l []api.Grant) { checkAll(t, l, pool, tenants, people) })
}

// TestAllListsOfThree has names of which one begins as another does.
func TestAllListsOfThree(t *testing.T) {
	tenants, people := []string{"a", "a-", "b"}, []string{"a-/x", "a/root", "a/x", "c/x"}
	pool := poolOf(tenants, people, 1, 2)
	sets := poolOf(tenants, people, 0, 3)
	eachList(pool, 3, func(l []api.Grant) { checkAll(t, l, sets, tenants, people) })
}

// TestRowsOfSets: each is done on what the one ahead of it told, up to as many as may be and down again.
func TestRowsOfSets(t *testing.T) {
	tenants := []string{"a", "b", "b-", "b0", "c", "root"}
	people := []string{"a/root", "a/x", "b-/x", "b/root", "b/x", "b/x-", "b/x0", "b0/x", "c/a", "c/root", "d/x", "e/x", "f/x", "g/x"}
	all := poolOf(tenants, people, 1)
	for _, step := range []int{1, 5, 11, 23, 37, 83} {
		var l []api.Grant
		full := 0
		for i := range 5 * len(all) {
			g := all[i*step%len(all)]
			g.Right = 1 + i*i/3%3
			if i%17 == 0 || i > 3*len(all) {
				g.Right = 0
			}
			rights, right := otherRead(l)
			if !right {
				t.Fatalf("%v is not right", l)
			}
			if !otherFits(g) {
				checkSetError(t, l, g, api.ErrArg)
				continue
			}
			want, e := otherSet(rights, g)
			if e != api.OK {
				checkSetError(t, l, g, e)
				full++
				continue
			}
			checkSet(t, l, g, want...)
			checkFollows(t, l, g, tenants, people)
			l = want
		}
		if len(l) != 0 || full == 0 {
			t.Errorf("by %d: %d are left, %d were too many", step, len(l), full)
		}
	}
}

// checkFollows: behind Set of g there is just that right, and all others' rights are as they were; Set of 0 takes it away.
func checkFollows(t *testing.T, l []api.Grant, g api.Grant, tenants, people []string) {
	t.Helper()
	set, e := Set(l, g)
	gone, e2 := Set(set, grant(g.Tenant, g.Who, 0))
	if e != api.OK || e2 != api.OK {
		t.Errorf("Set(%v, %v): %v, %v", l, g, e, e2)
	}
	for _, tenant := range tenants {
		for _, who := range people {
			if tenant == g.Tenant && who == g.Who {
				checkMay(t, set, tenant, who, g.Right)
				checkMay(t, gone, tenant, who, 0)
				continue
			}
			was := May(l, tenant, who)
			checkMay(t, set, tenant, who, was)
			checkMay(t, gone, tenant, who, was)
		}
	}
	if May(l, g.Tenant, g.Who) == 0 && !slices.Equal(gone, l) {
		t.Errorf("Set of 0 behind Set(%v, %v) is %v", l, g, gone)
	}
}

// TestFollows goes over grants of none, one, many, and as many as may be but one.
func TestFollows(t *testing.T) {
	tenants, people := []string{"a", "b", "t", "z"}, []string{"a/root", "a/x", "b/root", "b/x", "b/z", "c/x", "p/x000", "p/x030", "p/x062", "p/x063", "t/x", "z/root"}
	for _, l := range [][]api.Grant{nil, {grant("a", "b/x", 2)}, given(), grants(1), grants(31), grants(63)} {
		for _, g := range poolOf(tenants, people, 0, 1, 2, 3) {
			if otherFits(g) {
				checkFollows(t, l, g, tenants, people)
			}
		}
	}
}
