package net

import (
	"slices"
	"testing"
)

// sizes of nets: without letters, with few, nearly full, full.
var sizes = []int{0, 1, 2, 3, 199, 200}

// places are the first letters, the last ones, and one between.
func places(size int) []int {
	var l []int
	for _, i := range []int{0, 1, size / 2, size - 2, size - 1} {
		if i >= 0 && i < size {
			l = append(l, i)
		}
	}
	slices.Sort(l)
	return slices.Compact(l)
}

func TestLookAtEachPlace(t *testing.T) {
	for _, size := range sizes {
		n, want := sent(row(size)...), row(size)
		for range 2 {
			has(t, n, want...)
		}
	}
}

func TestTakeAtEachPlace(t *testing.T) {
	for _, size := range sizes {
		for _, i := range places(size) {
			n, want := sent(row(size)...), row(size)
			if got := told(n.Take(i)); got != want[i].told() {
				t.Errorf("%d of %d is %s, not %s", i, size, got, want[i].told())
			}
			has(t, n, slices.Delete(want, i, i+1)...)
		}
	}
}

func TestTakeOfAll(t *testing.T) {
	n, want := sent(row(200)...), row(200)
	for len(want) > 0 {
		i := len(want) * 5 / 7
		if got := told(n.Take(i)); got != want[i].told() {
			t.Fatalf("%d is %s, not %s", i, got, want[i].told())
		}
		want = slices.Delete(want, i, i+1)
		has(t, n, want...)
	}
	if got := told(n.Take(0)); got != nobody {
		t.Error("of none is", got)
	}
}

func TestCopyAtEachPlace(t *testing.T) {
	for _, size := range sizes {
		for _, i := range places(size) {
			n, want := sent(row(size)...), row(size)
			if ok := n.Copy(i); ok != (size < 200) {
				t.Errorf("%d of %d: %v", i, size, ok)
			}
			if size < 200 {
				want = append(want, want[i])
			}
			has(t, n, want...)
		}
	}
}

// A letter is copied as often as there is room, and its copies as well as itself; each goes its own way.
func TestCopyOfCopies(t *testing.T) {
	n := sent(one{1, 2, "a"}, one{3, 4, "b"})
	want := []one{{1, 2, "a"}, {3, 4, "b"}}
	for i := range 198 {
		if !n.Copy(i) {
			t.Fatal("no copy of", i)
		}
		want = append(want, want[i])
	}
	has(t, n, want...)
	for i := range 200 {
		if n.Copy(i) {
			t.Error("a copy in a full net, of", i)
		}
	}
	for i := range 200 {
		if got := told(n.Take(0)); got != want[i].told() {
			t.Fatalf("%d is %s", i, got)
		}
	}
	has(t, n)
}

// Each place to each place: the letter stands there, the others keep their order.
func TestMoveOfEach(t *testing.T) {
	for _, size := range []int{1, 2, 3, 4, 5, 8} {
		for i := range size {
			for k := range size {
				checkMove(t, size, i, k)
			}
		}
	}
	for _, size := range []int{199, 200} {
		for _, i := range places(size) {
			for _, k := range places(size) {
				checkMove(t, size, i, k)
			}
		}
	}
}

func checkMove(t *testing.T, size, i, k int) {
	t.Helper()
	n, all := sent(row(size)...), row(size)
	if !n.Move(i, k) {
		t.Errorf("%d to %d of %d: false", i, k, size)
	}
	var want []one
	for j, l := range all {
		if j != i {
			want = append(want, l)
		}
	}
	has(t, n, slices.Insert(want, k, all[i])...)
}

// Where there is no letter, nothing is told, and nothing is changed.
func TestBesideLetters(t *testing.T) {
	for _, size := range sizes {
		n, want := sent(row(size)...), row(size)
		for _, i := range beside(size) {
			if got := told(n.Take(i)); got != nobody {
				t.Errorf("Take of %d of %d is %s", i, size, got)
			}
			if n.Copy(i) {
				t.Errorf("Copy of %d of %d", i, size)
			}
			for _, k := range append(beside(size), places(size)...) {
				if n.Move(i, k) || n.Move(k, i) {
					t.Errorf("Move of %d and %d of %d", i, k, size)
				}
			}
			has(t, n, want...)
		}
	}
}
