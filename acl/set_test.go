package acl

import (
	"slices"
	"testing"

	"scriptorium/api"
)

// checkSet asks Set for want, and that it left what it was handed as it was.
func checkSet(t *testing.T, l []api.Grant, g api.Grant, want ...api.Grant) {
	t.Helper()
	was := slices.Clone(l)
	got, e := Set(l, g)
	if e != api.OK || !slices.Equal(got, want) {
		t.Errorf("Set(%v, %v) is %v, %v, not %v", l, g, got, e, want)
	}
	if !Right(got) {
		t.Errorf("Set(%v, %v) is %v, which is not right", l, g, got)
	}
	if !slices.Equal(l, was) {
		t.Errorf("Set(%v, %v) has left %v", was, g, l)
	}
}

func checkSetError(t *testing.T, l []api.Grant, g api.Grant, want api.Errno) {
	t.Helper()
	was := slices.Clone(l)
	if got, e := Set(l, g); e != want || len(got) != 0 {
		t.Errorf("Set(%v, %v) is %v, %v, not %v", l, g, got, e, want)
	}
	if !slices.Equal(l, was) {
		t.Errorf("Set(%v, %v) has left %v", was, g, l)
	}
}

func TestSetOfExamples(t *testing.T) {
	g := grant("a", "b/x", 1)
	checkSet(t, nil, g, g)
	it, _ := Set(nil, g)
	checkMay(t, it, "a", "b/x", 1)
	checkSet(t, it, grant("a", "b/x", 0))
	checkSetError(t, nil, grant("a", "a/x", 1), api.ErrArg)
	checkSetError(t, nil, grant("a", "b", 1), api.ErrArg)
}

func TestSetIntoNone(t *testing.T) {
	for _, l := range [][]api.Grant{nil, {}} {
		for right := 1; right <= 3; right++ {
			checkSet(t, l, grant("a", "b/x", right), grant("a", "b/x", right))
			checkSet(t, l, grant("a", "b/root", right), grant("a", "b/root", right))
			checkSet(t, l, grant(many("a", 16), many("b", 16)+"/"+many("x", 16), right), grant(many("a", 16), many("b", 16)+"/"+many("x", 16), right))
		}
		checkSet(t, l, grant("a", "b/x", 0))
		checkSet(t, l, grant("a", "b/root", 0))
	}
}

// TestSetIntoOne has what stands ahead of it, behind it, and at its place.
func TestSetIntoOne(t *testing.T) {
	for was := 1; was <= 3; was++ {
		one := grant("k", "m/x", was)
		for right := range 4 {
			at := grant("k", "m/x", right)
			if right == 0 {
				checkSet(t, []api.Grant{one}, at)
			} else {
				checkSet(t, []api.Grant{one}, at, at)
			}
			for _, g := range []api.Grant{grant("a", "m/x", right), grant("k", "m/w", right), grant("k", "a/x", right), grant("k", "m-/x", right), grant("j", "z/z", right), grant("k", "k0/x", right), grant("k", "a/z", right)} {
				if right == 0 {
					checkSet(t, []api.Grant{one}, g, one)
				} else {
					checkSet(t, []api.Grant{one}, g, g, one)
				}
			}
			for _, g := range []api.Grant{grant("z", "m/x", right), grant("k", "m/y", right), grant("k", "n/x", right), grant("k", "m0/x", right), grant("m", "a/a", right), grant("k-", "a/x", right), grant("k", "z/a", right), grant("k", "m/x-", right)} {
				if right == 0 {
					checkSet(t, []api.Grant{one}, g, one)
				} else {
					checkSet(t, []api.Grant{one}, g, one, g)
				}
			}
		}
	}
}

// TestSetIntoMany sets at each place of grants of each number: over the one that is there, and ahead of it.
func TestSetIntoMany(t *testing.T) {
	for _, n := range []int{2, 3, 7, 62, 63} {
		l := grants(n)
		for at := range l {
			for right := 1; right <= 3; right++ {
				want := slices.Clone(l)
				want[at].Right = right
				checkSet(t, l, grant("t", l[at].Who, right), want...)
				g := grant("t", l[at].Who+"-", right)
				checkSet(t, l, g, slices.Insert(slices.Clone(l), at+1, g)...)
				checkSet(t, slices.Delete(slices.Clone(l), at, at+1), l[at], l...)
			}
			checkSet(t, l, grant("t", l[at].Who, 0), slices.Delete(slices.Clone(l), at, at+1)...)
			checkSet(t, l, grant("t", l[at].Who+"-", 0), l...)
			checkSet(t, l, grant("s", l[at].Who, 0), l...)
		}
		for right := 1; right <= 3; right++ {
			checkSet(t, l, grant("s", "z/z", right), slices.Insert(slices.Clone(l), 0, grant("s", "z/z", right))...)
			checkSet(t, l, grant("u", "a/a", right), append(slices.Clone(l), grant("u", "a/a", right))...)
		}
	}
}

// TestSetAtMost: with as many as may be, those that are there may change and go, and no other one comes.
func TestSetAtMost(t *testing.T) {
	l := grants(api.MaxGrants)
	news := []api.Grant{grant("s", "p/x000", 1), grant("t", "a/a", 1), grant("t", "p/x031-", 1), grant("t", "z/z", 1), grant("u", "a/a", 1)}
	for _, g := range news {
		for right := 1; right <= 3; right++ {
			g.Right = right
			checkSetError(t, l, g, api.ErrMany)
			if m, e := Set(l[:63], g); e != api.OK || len(m) != 64 || !Right(m) {
				t.Errorf("Set(63, %v) is %v, %v", g, m, e)
			}
			if m, e := Set(l[1:], g); e != api.OK || len(m) != 64 || !Right(m) {
				t.Errorf("Set(63, %v) is %v, %v", g, m, e)
			}
		}
		g.Right = 0
		checkSet(t, l, g, l...)
	}
	for at := range l {
		for right := 1; right <= 3; right++ {
			want := slices.Clone(l)
			want[at].Right = right
			checkSet(t, l, want[at], want...)
		}
		less := slices.Delete(slices.Clone(l), at, at+1)
		checkSet(t, l, grant("t", l[at].Who, 0), less...)
		checkSet(t, less, l[at], l...)
	}
}

// wrongGrants could be none of grants that are right, and not Set with 0 either.
func wrongGrants() []api.Grant {
	l := []api.Grant{{}, grant("a", "b/x", -1), grant("a", "b/x", 4), grant("a", "b/x", 1<<62), grant("a", "b/x", -1<<63), grant("a", "b/x", 1<<32+1)}
	for right := range 4 {
		for _, tenant := range []string{"", "A", "9", "-a", "a/", "a/x", " a", "a\n", "ä", "a\xff", many("a", 17)} {
			l = append(l, grant(tenant, "b/x", right))
		}
		for _, who := range []string{"", "b", "/", "b/", "/x", "b/x/", "b/x/y", "b//x", "B/x", "b/X", " b/x", "b/x\n", "b/9", many("b", 17) + "/x", "b/" + many("x", 17), "a", "a/x", "a/root", "a/a"} {
			l = append(l, grant("a", who, right))
		}
	}
	return l
}

func TestSetOfTheWrong(t *testing.T) {
	for _, g := range wrongGrants() {
		for _, l := range [][]api.Grant{nil, {}, {grant("a", "b/x", 1)}, given(), grants(63), grants(64)} {
			checkSetError(t, l, g, api.ErrArg)
		}
	}
}

// TestSetOfGrantsNotRight: ErrArg is first, also where there would be too many, and where nothing would change or the wrong one would go.
func TestSetOfGrantsNotRight(t *testing.T) {
	full := grants(64)
	full[63].Right = 0
	lists := [][]api.Grant{
		{{}}, {grant("a", "a/x", 1)}, {grant("a", "b", 1)}, {grant("a", "b/x", 0)}, {grant("a", "b/x", 4)}, {grant("", "b/x", 1)},
		{grant("a", "b/x", 1), grant("a", "b/x", 1)}, {grant("a", "b/y", 1), grant("a", "b/x", 1)}, {grant("b", "a/x", 1), grant("a", "b/x", 1)},
		append(given(), grant("a", "b/x", 1)), grants(65), grants(1000), full,
	}
	for _, l := range lists {
		for right := range 4 {
			for _, g := range []api.Grant{grant("a", "b/x", right), grant("a", "b/y", right), grant("t", "p/x000", right), grant("t", "p/x064", right), grant("t", "p/x063", right), grant("z", "a/x", right)} {
				checkSetError(t, l, g, api.ErrArg)
			}
		}
		checkSetError(t, l, grant("a", "a/x", 1), api.ErrArg)
		checkSetError(t, l, api.Grant{}, api.ErrArg)
	}
}

// TestSetSharesNothing: what is told is the caller's, also where l has room behind its end, and nothing has changed.
func TestSetSharesNothing(t *testing.T) {
	sets := []api.Grant{
		grant("t", "p/x002", 0), grant("t", "p/x002", 3), grant("t", "p/x002", 1), grant("t", "p/x002-", 0), grant("t", "p/x002-", 2),
		grant("a", "b/x", 0), grant("a", "b/x", 1), grant("z", "b/x", 0), grant("z", "b/x", 1), grant("t", "p/x000", 0), grant("t", "p/x004", 0),
	}
	for _, g := range sets {
		room := slices.Repeat([]api.Grant{grant("r", "q/r", 3)}, 9)
		l := append(room[:0], grants(5)...)
		one, e := Set(l, g)
		two, _ := Set(l, g)
		if e != api.OK || !slices.Equal(l, grants(5)) || !slices.Equal(room[5:], slices.Repeat([]api.Grant{grant("r", "q/r", 3)}, 4)) {
			t.Errorf("Set(%v) has left %v", g, room)
		}
		want := slices.Clone(one)
		one = one[:cap(one)]
		for i := range one {
			one[i] = grant("w", "v/w", 2)
		}
		if !slices.Equal(l, grants(5)) || !slices.Equal(two, want) {
			t.Errorf("what Set(%v) told is shared: %v, %v", g, room, two)
		}
		for i := range room {
			room[i] = grant("u", "v/u", 1)
		}
		if !slices.Equal(two, want) {
			t.Errorf("what Set(%v) told is %v", g, two)
		}
	}
}
