package docs

import (
	"math"
	"testing"

	"scriptorium/api"
)

// fit is a command of this kind that somebody who owns the tenant a may ask of some().
func fit(op int) api.Command {
	c := api.Command{Op: op, Who: "a/root", Tenant: "a", Doc: "d", Target: "c/x", Right: 1, Text: "text"}
	switch op {
	case api.OpMake:
		c.Who, c.Tenant = "new/root", "new"
	case api.OpPut:
		c.Version = -1
	}
	return c
}

func TestFits(t *testing.T) {
	for _, op := range ops() {
		if _, a := apply(t, some(), fit(op)); a.Err != api.OK {
			t.Errorf("%+v answers %v", fit(op), a.Err)
		}
	}
}

func TestOpOfNone(t *testing.T) {
	for _, op := range []int{0, -1, -8, 9, 10, 256 + 1, 1<<32 + 1, math.MaxInt, math.MinInt} {
		c := fit(api.OpGet)
		c.Op = op
		for _, s := range []api.Store{{}, some()} {
			checkRefused(t, s, c, api.ErrArg)
		}
	}
}

// wrongPeople are nobody.
func wrongPeople() []string {
	l := []string{"a", "a/", "/root", "a//root", "a/root/", "a/root/x", " a/root", "a/root ", "a\\root", "a/Root", "A/root", "a/root\x00"}
	for _, name := range wrongNames() {
		l = append(l, "a/"+name, name+"/root")
	}
	return l
}

func TestWhoOfNobody(t *testing.T) {
	for _, who := range wrongPeople() {
		for _, op := range ops() {
			c := fit(op)
			c.Who = who
			checkRefused(t, some(), c, api.ErrArg)
			checkRefused(t, api.Store{}, c, api.ErrArg)
		}
	}
}

func TestTenantOfNoName(t *testing.T) {
	for _, name := range wrongNames() {
		for _, op := range ops() {
			c := fit(op)
			c.Tenant = name
			checkRefused(t, some(), c, api.ErrArg)
			checkRefused(t, api.Store{}, c, api.ErrArg)
		}
	}
}

// TestDocOfNoName: it is an error in the commands that read it alone.
func TestDocOfNoName(t *testing.T) {
	for _, name := range wrongNames() {
		for _, op := range []int{api.OpPut, api.OpDelete, api.OpGet, api.OpHistory, api.OpRender} {
			c := fit(op)
			c.Doc = name
			checkRefused(t, some(), c, api.ErrArg)
			checkRefused(t, api.Store{}, c, api.ErrArg)
		}
		for _, op := range []int{api.OpMake, api.OpGrant, api.OpList} {
			c := fit(op)
			want, answer := Apply(some(), c)
			c.Doc = name
			checkApply(t, some(), c, want, answer)
		}
	}
}

// TestArgAheadOfAll: it is told ahead of all errors of the table.
func TestArgAheadOfAll(t *testing.T) {
	for _, op := range []int{api.OpPut, api.OpDelete, api.OpGet, api.OpHistory, api.OpRender} {
		for _, tenant := range []string{"a", "c", "gone"} {
			c := api.Command{Op: op, Who: "z/x", Tenant: tenant, Doc: "D", Version: 77, Text: many(4097)}
			checkRefused(t, some(), c, api.ErrArg)
		}
	}
	for _, op := range ops() {
		checkRefused(t, some(), api.Command{Op: op, Who: "z", Tenant: "a", Doc: "d"}, api.ErrArg)
		checkRefused(t, some(), api.Command{Op: op, Who: "z/x", Tenant: "A", Doc: "d"}, api.ErrArg)
	}
	for _, tenant := range []string{"a", "gone"} {
		checkRefused(t, some(), api.Command{Op: 9, Who: "z/x", Tenant: tenant, Doc: "d"}, api.ErrArg)
	}
}

// TestUnreadFields: what a command does not read changes nothing.
func TestUnreadFields(t *testing.T) {
	set := func(c *api.Command, field string) {
		switch field {
		case "doc":
			c.Doc = "unread"
		case "target":
			c.Target = "a/x/y"
		case "text":
			c.Text = many(5000)
		case "version":
			c.Version = -99
		case "right":
			c.Right = 99
		}
	}
	unread := map[int][]string{
		api.OpMake:    {"doc", "target", "text", "version", "right"},
		api.OpGrant:   {"doc", "text", "version"},
		api.OpPut:     {"target", "right"},
		api.OpDelete:  {"target", "text", "version", "right"},
		api.OpGet:     {"target", "text", "right"},
		api.OpList:    {"doc", "target", "text", "version", "right"},
		api.OpHistory: {"target", "text", "version", "right"},
		api.OpRender:  {"target", "text", "right"},
	}
	for op, fields := range unread {
		want, answer := Apply(some(), fit(op))
		for _, field := range fields {
			c := fit(op)
			set(&c, field)
			checkApply(t, some(), c, want, answer)
		}
	}
}

// rightsIn are the rights that people have in the tenant a of some().
func rightsIn() map[string]int {
	return map[string]int{
		"a/root": 3, "a/x": 2, "a/reads": 2, "a/roo": 2, "a/root0": 2, "b/owns": 3, "b/writes": 2, "b/reads": 1, "z/root": 1,
		"b/root": 0, "b/x": 0, "c/root": 0, "z/x": 0, "aa/root": 0, "root/a": 0, "b/reads0": 0, "c/reads": 0,
	}
}

// TestDenied: who has not the right is denied, whatever else they ask.
func TestDenied(t *testing.T) {
	for who, right := range rightsIn() {
		for _, op := range ops()[1:] {
			c := fit(op)
			c.Who = who
			least := map[int]int{api.OpGrant: 3, api.OpPut: 2, api.OpDelete: 2}[op]
			if right >= max(least, 1) {
				if _, a := apply(t, some(), c); a.Err != api.OK {
					t.Errorf("%+v answers %v", c, a.Err)
				}
				continue
			}
			checkRefused(t, some(), c, api.ErrDeny)
			c.Doc, c.Version, c.Text, c.Target, c.Right = "none", 77, many(4097), "x", -1
			checkRefused(t, some(), c, api.ErrDeny)
		}
	}
}

// TestDeniedWhereNoTenantIs: in a tenant that the store has not, nobody may anything, not even its own root.
func TestDeniedWhereNoTenantIs(t *testing.T) {
	for _, s := range []api.Store{{}, some(), store(tenants(8)...)} {
		for _, name := range []string{"gone", "aa", "a0", "z"} {
			for _, who := range []string{name + "/root", name + "/x", "a/root", "b/reads", "z/root"} {
				for _, op := range ops()[1:] {
					c := fit(op)
					c.Who, c.Tenant = who, name
					checkRefused(t, s, c, api.ErrDeny)
				}
			}
		}
	}
}
