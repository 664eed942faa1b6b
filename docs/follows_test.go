package docs

import (
	"fmt"
	"slices"
	"strconv"
	"testing"

	"scriptorium/api"
)

// checkOther does c on s, which o holds otherwise, and holds all that is told against the other reading; it gives the store behind it, and the other one.
func checkOther(t *testing.T, s api.Store, o other, c api.Command) (api.Store, other) {
	t.Helper()
	was := o.store()
	got, answer := Apply(s, c)
	behind := o.clone()
	want := behind.do(c)
	if !sameAnswer(answer, want) {
		t.Fatalf("on\n%.1000s%+.60v answers %.200s, not %.200s", told(s), c, toldAnswer(answer), toldAnswer(want))
	}
	if !same(got, behind.store()) {
		t.Fatalf("on\n%.1000sbehind %+.60v there is\n%.1000snot\n%.1000s", told(s), c, told(got), told(behind.store()))
	}
	if !Right(got) {
		t.Fatalf("behind %+.60v there is what is not right:\n%.1000s", c, told(got))
	}
	if !same(got, was) && (want.Err != api.OK || slices.Contains(tells(), c.Op)) {
		t.Fatalf("%+.60v changed the store", c)
	}
	if !same(s, was) {
		t.Fatalf("%+.60v changed what was handed in", c)
	}
	return got, behind
}

// smallCommands are those of two tenants, a few people and documents, right and wrong ones.
func smallCommands() []api.Command {
	var l []api.Command
	for _, tenant := range []string{"a", "b", "B"} {
		for _, who := range []string{"a/root", "a/x", "b/root", "b"} {
			l = append(l, making(who, tenant), api.Command{Op: api.OpList, Who: who, Tenant: tenant}, api.Command{Op: 9, Who: who, Tenant: tenant, Doc: "d"})
			for _, right := range []int{0, 1, 3} {
				l = append(l, granting(who, tenant, "a/x", right), granting(who, tenant, "b/root", right))
			}
			for _, doc := range []string{"d", "e", "D"} {
				for _, version := range []int{-1, 0, 1, 2} {
					l = append(l, api.Command{Op: api.OpGet, Who: who, Tenant: tenant, Doc: doc, Version: version})
					l = append(l, api.Command{Op: api.OpRender, Who: who, Tenant: tenant, Doc: doc, Version: version})
					if version < 2 {
						l = append(l, api.Command{Op: api.OpPut, Who: who, Tenant: tenant, Doc: doc, Version: version, Text: "{{include b/d}}\n*x*"})
					}
				}
				l = append(l, api.Command{Op: api.OpHistory, Who: who, Tenant: tenant, Doc: doc}, api.Command{Op: api.OpDelete, Who: who, Tenant: tenant, Doc: doc})
			}
		}
	}
	return l
}

// TestAllShortRows: from the empty store on, each command on each store that some row of commands ahead of it leaves.
func TestAllShortRows(t *testing.T) {
	type pair struct {
		s api.Store
		o other
	}
	seen := map[string]int{"": 1}
	level := []pair{{api.Store{}, newOther()}}
	for range 6 {
		var next []pair
		for _, p := range level {
			for _, c := range smallCommands() {
				s, o := checkOther(t, p.s, p.o, c)
				if key := told(s); seen[key] == 0 {
					seen[key] = 1
					next = append(next, pair{s, o})
				}
			}
		}
		level = next
	}
	if len(seen) < 300 {
		t.Errorf("there were only %d stores", len(seen))
	}
}

// row draws the commands of a long row: the same ones each time.
type row struct{ state uint64 }

func (r *row) below(n int) int {
	r.state = r.state*6364136223846793005 + 1442695040888963407
	return int(r.state>>33) % n
}

func pick[T any](r *row, l ...T) T { return l[r.below(len(l))] }

// text is small or great, and may include documents.
func (r *row) text() string {
	switch r.below(8) {
	case 0:
		return many(pick(r, 0, 1, 512, 4095, 4096, 4096, 4097))
	case 1, 2:
		return many(r.below(1500))
	case 3:
		return "a\n" + fmt.Sprintf("{{include %s/%s@%d}}\n", r.tenant(), r.doc(), 1+r.below(12))
	case 4, 5:
		return fmt.Sprintf("{{include %s/%s}}\n", r.tenant(), r.doc()) + "# b"
	}
	return "*" + strconv.Itoa(r.below(100)) + "*"
}

func (r *row) tenant() string {
	return pick(r, "a", "a", "a", "b", "b", "c", "d", "e", "f", "g", "h", "i", "j")
}

func (r *row) doc() string {
	return pick(r, "d", "d", "d", "e", "e", "f", "g", "h", "i", "j", "k", "l")
}

func (r *row) command() api.Command {
	c := api.Command{Tenant: r.tenant(), Doc: r.doc(), Version: r.below(16) - 2, Right: r.below(5)}
	c.Op = pick(r, 1, 1, 2, 2, 2, 3, 3, 3, 3, 3, 3, 3, 4, 5, 5, 6, 7, 8, 8, 8)
	c.Who = pick(r, c.Tenant, c.Tenant, r.tenant()) + "/" + pick(r, "root", "root", "x", "y")
	switch c.Op {
	case api.OpGrant:
		c.Target = r.tenant() + "/" + pick(r, "root", "x", "y", "z")
		c.Right = pick(r, 1, 1, 1, 2, 3, 1, 1, 2, 0, 4)
	case api.OpPut:
		c.Text = r.text()
		c.Version = pick(r, -1, -1, -1, c.Version)
	case api.OpGet, api.OpRender:
		c.Version = pick(r, 0, 0, c.Version)
	}
	switch r.below(200) {
	case 0:
		c.Op = r.below(12) - 1
	case 1:
		c.Doc = "D"
	case 2:
		c.Tenant = ""
	case 3:
		c.Who = "root"
	}
	return c
}

// TestLongRows: up to all limits; each error that a command may answer was answered.
func TestLongRows(t *testing.T) {
	met := map[string]int{}
	for seed := range 6 {
		r := row{uint64(seed)}
		s, o := api.Store{}, newOther()
		for range 4000 {
			c := r.command()
			_, a := Apply(s, c)
			met[fmt.Sprint(c.Op, " ", int(a.Err))]++
			s, o = checkOther(t, s, o, c)
		}
	}
	for op, errs := range [][]api.Errno{
		1: {api.OK, api.ErrArg, api.ErrDeny, api.ErrHave, api.ErrMany},
		2: {api.OK, api.ErrArg, api.ErrDeny, api.ErrMany},
		3: {api.OK, api.ErrArg, api.ErrDeny, api.ErrLong, api.ErrCas, api.ErrQuota},
		4: {api.OK, api.ErrArg, api.ErrDeny, api.ErrNone},
		5: {api.OK, api.ErrArg, api.ErrDeny, api.ErrNone},
		6: {api.OK, api.ErrArg, api.ErrDeny},
		7: {api.OK, api.ErrArg, api.ErrDeny, api.ErrNone},
		8: {api.OK, api.ErrArg, api.ErrDeny, api.ErrNone, api.ErrCycle},
	} {
		for _, err := range errs {
			if met[fmt.Sprint(op, " ", int(err))] == 0 {
				t.Errorf("no command of the kind %d answered %d", op, int(err))
			}
		}
	}
}

// apart is s with other things in all tenants that who may not read: of each way one.
func apart(o other, who string) []api.Store {
	none, otherDocs, given := o.clone(), o.clone(), o.clone()
	for name := range o.docs {
		if o.may(name, who) > 0 {
			continue
		}
		delete(none.docs, name)
		otherDocs.docs[name] = map[string][]string{"d": {"other"}, "new": {"{{include a/d}}", "x"}}
		if len(given.store().Grants) < api.MaxGrants {
			given.rights[name]["new/new"] = 3
		}
	}
	return []api.Store{none.store(), otherDocs.store(), given.store()}
}

// TestApart: who may not read a tenant is told the same, whatever stands there.
func TestApart(t *testing.T) {
	differ := 0
	for seed := range 3 {
		r := row{uint64(100 + seed)}
		s, o := api.Store{}, newOther()
		for i := range 900 {
			s, o = checkOther(t, s, o, r.command())
			if i%9 > 0 {
				continue
			}
			c := r.command()
			for _, op := range tells() {
				c.Op = op
				_, want := Apply(s, c)
				for _, changed := range apart(o, c.Who) {
					if !same(changed, s) {
						differ++
					}
					if !Right(changed) {
						t.Fatalf("%.1000s is not right", told(changed))
					}
					if _, a := Apply(changed, c); !sameAnswer(a, want) {
						t.Fatalf("%+v answers %.200s, and %.200s where what it may not read is other", c, toldAnswer(want), toldAnswer(a))
					}
				}
			}
		}
	}
	if differ < 1000 {
		t.Errorf("only %d stores were other ones", differ)
	}
}

// TestWhatWasPut is what is got, till it is gone: by so many others, or by OpDelete.
func TestWhatWasPut(t *testing.T) {
	for _, text := range []string{"", "text", "\x00\xff\r\n", many(4096)} {
		s, answer := Apply(store(tenant("a", doc("d", 5, "x"), doc("e", 1, "e"))), putting("d", 5, text))
		if answer.Err != api.OK || answer.Version != 6 {
			t.Fatal(answer)
		}
		checkTold(t, s, getting(api.OpGet, "d", 0), api.Answer{Version: 6, Text: text})
		for i := range 8 {
			checkTold(t, s, getting(api.OpGet, "d", 6), api.Answer{Version: 6, Text: text})
			deleted, _ := Apply(s, deleting("d"))
			checkRefused(t, deleted, getting(api.OpGet, "d", 6), api.ErrNone)
			s, _ = Apply(s, putting("e", -1, "other"))
			s, _ = Apply(s, making("b/root", "b"))
			s, answer = Apply(s, putting("d", -1, "later"))
			if answer.Version != 7+i {
				t.Fatal(answer)
			}
			checkTold(t, s, getting(api.OpGet, "d", 0), api.Answer{Version: 7 + i, Text: "later"})
		}
		checkRefused(t, s, getting(api.OpGet, "d", 6), api.ErrNone)
	}
}

// TestExamples is the chapter's row, one behind the other.
func TestExamples(t *testing.T) {
	s := api.Store{}
	render := func(who string) api.Command { return rendering(who, "a", "d", 0) }
	told := api.Answer{Version: 2, Text: "<p><em>1</em></p>\n"}
	for _, step := range []struct {
		c    api.Command
		want api.Answer
	}{
		{making("a/x", "a"), api.Answer{Err: api.ErrDeny}},
		{making("a/root", "a"), api.Answer{}},
		{putting("d", 0, "*1*"), api.Answer{Version: 1}},
		{putting("d", 0, "*1*"), api.Answer{Err: api.ErrCas}},
		{putting("d", -1, "*1*"), api.Answer{Version: 2}},
		{render("a/x"), told},
		{render("b/x"), api.Answer{Err: api.ErrDeny}},
		{granting("a/root", "a", "b/x", 1), api.Answer{}},
		{render("b/x"), told},
		{getting(api.OpHistory, "d", 0), api.Answer{Version: 2, List: []string{"1", "2"}}},
	} {
		behind, answer := apply(t, s, step.c)
		if toldAnswer(answer) != toldAnswer(step.want) {
			t.Errorf("%+v answers %s, not %s", step.c, toldAnswer(answer), toldAnswer(step.want))
		}
		s = behind
	}
}
