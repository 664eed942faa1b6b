package parts

import (
	"math"
	"slices"
	"strings"
	"testing"

	"scriptorium/api"
)

func TestWithin(t *testing.T) {
	for _, least := range []int{math.MinInt, -1, 0, 1, 5, math.MaxInt} {
		for _, most := range []int{math.MinInt, -1, 0, 1, 5, math.MaxInt} {
			for _, n := range []int{math.MinInt, -2, -1, 0, 1, 2, 4, 5, 6, math.MaxInt} {
				if got := Within(n, least, most); got != (n >= least && n <= most) {
					t.Errorf("%d from %d to %d: %v", n, least, most, got)
				}
			}
		}
	}
}

func TestIsNode(t *testing.T) {
	nodes := []int{1, 2, 3, 4, 5}
	for _, n := range []int{math.MinInt, -1, 0, 1, 2, 3, 4, 5, 6, 257, 1<<32 + 1, math.MaxInt} {
		if IsNode(n) != slices.Contains(nodes, n) {
			t.Errorf("%d: %v", n, IsNode(n))
		}
	}
}

// groups are all that there are, by their nodes' digits.
const groups = " 1 2 3 4 5 12 13 14 15 23 24 25 34 35 45 123 124 125 134 135 145 234 235 245 345 1234 1235 1245 1345 2345 12345 "

// All rows of up to six numbers.
func TestIsGroup(t *testing.T) {
	found := 0
	var grow func(nodes []int, digits string)
	grow = func(nodes []int, digits string) {
		want := strings.Contains(groups, " "+digits+" ") && digits != ""
		if IsGroup(nodes) != want {
			t.Fatalf("%v: %v", nodes, !want)
		}
		if want {
			found++
		}
		if len(nodes) == 6 {
			return
		}
		for n := range 7 {
			grow(append(slices.Clone(nodes), n), digits+string(rune('0'+n)))
		}
	}
	grow(nil, "")
	if found != 31 {
		t.Errorf("%d are groups", found)
	}
	for _, nodes := range [][]int{{}, {-1}, {math.MinInt, 1}, {1, math.MaxInt}, {1, 2, 3, 4, 5, 6}, make([]int, 1000)} {
		if IsGroup(nodes) {
			t.Errorf("%.60d is one", nodes)
		}
	}
}

func TestMayBeHard(t *testing.T) {
	numbers := []int{math.MinInt, -1, 0, 1, 4, 5, 6, 7, 257, 999998, 999999, 1000000, math.MaxInt}
	for _, term := range numbers {
		for _, vote := range numbers {
			if want := term >= 0 && term <= 999999 && vote >= 0 && vote <= 5; MayBeHard(term, vote) != want {
				t.Errorf("the term %d and the vote %d: %v", term, vote, !want)
			}
		}
	}
}

func TestMayBeSnap(t *testing.T) {
	good := api.Snap{Index: 1, Term: 1, Nodes: []int{1}}
	with := func(change func(x *api.Snap)) api.Snap {
		x := good
		change(&x)
		return x
	}
	index := func(n int) api.Snap { return with(func(x *api.Snap) { x.Index = n }) }
	term := func(n int) api.Snap { return with(func(x *api.Snap) { x.Term = n }) }
	nodes := func(l ...int) api.Snap { return with(func(x *api.Snap) { x.Nodes = l }) }
	data := func(n int) api.Snap { return with(func(x *api.Snap) { x.Data = make([]byte, n) }) }
	for _, x := range []api.Snap{good, index(2), index(999998), term(0), term(999999), nodes(5), nodes(1, 2, 3, 4, 5), data(0), data(1), data(300000)} {
		if !MayBeSnap(x) {
			t.Errorf("one of %d, %d, %d and %d bytes may not be", x.Index, x.Term, x.Nodes, len(x.Data))
		}
	}
	for _, x := range []api.Snap{{}, index(0), index(-1), index(999999), index(math.MaxInt), term(-1), term(1000000), term(math.MinInt), nodes(), nodes(0), nodes(6), nodes(2, 1), nodes(1, 1), data(300001)} {
		if MayBeSnap(x) {
			t.Errorf("one of %d, %d, %d and %d bytes may be", x.Index, x.Term, x.Nodes, len(x.Data))
		}
	}
}

func TestMayBeEntry(t *testing.T) {
	nodes, bytes := []int{1, 2}, func(n int) []byte { return make([]byte, n) }
	for _, e := range []api.Entry{
		{Term: 1}, {Term: 999999, Data: []byte{}, Nodes: []int{}}, {Index: -7, Term: 1}, {Index: math.MaxInt, Term: 1},
		{Term: 1, Kind: 1}, {Term: 2, Kind: 1, Data: bytes(1), Nodes: []int{}}, {Term: 2, Kind: 1, Data: bytes(8000)},
		{Term: 1, Kind: 2, Nodes: nodes}, {Term: 999999, Kind: 2, Nodes: nodes, Data: []byte{}},
	} {
		if !MayBeEntry(e) {
			t.Errorf("%.80v may not be", e)
		}
	}
	for _, e := range []api.Entry{
		{}, {Term: -1}, {Term: 1000000}, {Kind: 1}, {Kind: 2, Nodes: nodes}, {Term: 1000000, Kind: 1}, {Term: math.MaxInt, Kind: 2, Nodes: nodes},
		{Term: 1, Kind: -1}, {Term: 1, Kind: 3}, {Term: 1, Kind: math.MaxInt}, {Term: 1, Kind: 257},
		{Term: 1, Data: bytes(1)}, {Term: 1, Nodes: nodes}, {Term: 1, Kind: 1, Nodes: nodes}, {Term: 1, Kind: 1, Data: bytes(8001)},
		{Term: 1, Kind: 2}, {Term: 1, Kind: 2, Nodes: []int{2, 1}}, {Term: 1, Kind: 2, Nodes: nodes, Data: bytes(1)}, {Term: 1, Kind: 2, Data: bytes(1)},
	} {
		if MayBeEntry(e) {
			t.Errorf("%.80v may be", e)
		}
	}
}

// A run of entries at each bound, and one beyond it.
func TestGoOn(t *testing.T) {
	for _, c := range []struct {
		l                 []api.Entry
		index, term, most int
		want              bool
	}{
		{nil, 0, 0, 0, true}, {nil, 999999, 9, 1, true}, {nil, math.MaxInt, 0, 0, true},
		{[]api.Entry{{Index: 1, Term: 1}}, 0, 0, 1, true},
		{[]api.Entry{{Index: 1, Term: 1}}, 0, 1, 1, true},
		{[]api.Entry{{Index: 1, Term: 1}}, 0, 2, 2, false},
		{[]api.Entry{{Index: 1, Term: 1}}, 0, 0, 0, false},
		{[]api.Entry{{Index: 1, Term: 0}}, 0, 0, 1, false},
		{[]api.Entry{{Index: 1, Term: 1, Data: []byte("x")}}, 0, 0, 1, false},
		{[]api.Entry{{Index: 1, Term: 1}}, 1, 0, 1, false},
		{[]api.Entry{{Index: 2, Term: 1}}, 0, 0, 1, false},
		{[]api.Entry{{Index: 0, Term: 1}}, -1, 0, 1, false},
		{[]api.Entry{{Index: math.MinInt, Term: 1}}, math.MaxInt, 0, 1, false},
		{[]api.Entry{{Index: 999999, Term: 1}}, 999998, 0, 1, true},
		{[]api.Entry{{Index: 1000000, Term: 1}}, 999999, 0, 1, false},
		{[]api.Entry{{Index: 999999, Term: 1}, {Index: 1000000, Term: 1}}, 999998, 0, 1, false},
		{[]api.Entry{{Index: 6, Term: 2}, {Index: 7, Term: 2}, {Index: 8, Term: 5}}, 5, 2, 5, true},
		{[]api.Entry{{Index: 6, Term: 2}, {Index: 7, Term: 2}, {Index: 8, Term: 6}}, 5, 2, 5, false},
		{[]api.Entry{{Index: 6, Term: 2}, {Index: 7, Term: 1}, {Index: 8, Term: 5}}, 5, 1, 5, false},
		{[]api.Entry{{Index: 6, Term: 2}, {Index: 8, Term: 2}}, 5, 2, 5, false},
		{[]api.Entry{{Index: 6, Term: 2}, {Index: 6, Term: 2}}, 5, 2, 5, false},
		{[]api.Entry{{Index: 6, Term: 2}, {Index: 5, Term: 2}}, 5, 2, 5, false},
		{[]api.Entry{{Index: 6, Term: 2, Kind: 1, Data: []byte("x")}, {Index: 7, Term: 3, Kind: 2, Nodes: []int{1}}}, 5, 2, 3, true},
		{[]api.Entry{{Index: 6, Term: 2, Kind: 1, Data: []byte("x")}, {Index: 7, Term: 3, Kind: 2}}, 5, 2, 3, false},
	} {
		if GoOn(c.l, c.index, c.term, c.most) != c.want {
			t.Errorf("%v from %d, %d, to %d: %v", c.l, c.index, c.term, c.most, !c.want)
		}
	}
}
