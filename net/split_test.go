package net

import (
	"math"
	"testing"
)

// splits have none, all, the lowest, the highest bit, and some between.
var splits = []uint64{0, 1, 2, 4, 1 << 62, 1 << 63, 1<<63 | 1, 1<<32 | 1<<31, math.MaxUint64, math.MaxUint64 - 1, math.MaxUint64 >> 1, 0xAAAAAAAAAAAAAAAA, 0x0123456789ABCDEF}

// sidesOf tells each node's side, from the lowest bit on.
func sidesOf(split uint64) []bool {
	var l []bool
	for range 64 {
		l = append(l, split%2 == 1)
		split /= 2
	}
	return l
}

func TestReachOfEachPair(t *testing.T) {
	n := New()
	for _, split := range splits {
		n.Split(split)
		sides := sidesOf(split)
		for from := range 64 {
			for to := range 64 {
				if n.Reach(from, to) != (sides[from] == sides[to]) {
					t.Errorf("split %x: from %d to %d: %v", split, from, to, n.Reach(from, to))
				}
			}
			if !n.Reach(from, from) {
				t.Errorf("split %x: %d does not reach itself", split, from)
			}
		}
	}
}

func TestReachOfNoNodes(t *testing.T) {
	n := New()
	for _, split := range splits {
		n.Split(split)
		for _, none := range []int{math.MinInt, math.MinInt + 1, -65, -64, -63, -1, 64, 65, 127, 128, 256, 1 << 32, math.MaxInt} {
			for node := range 64 {
				if n.Reach(none, node) || n.Reach(node, none) {
					t.Errorf("split %x: %d and %d", split, none, node)
				}
			}
			if n.Reach(none, none) || n.Reach(none, -none) || n.Reach(none, 64) || n.Reach(-1, none) {
				t.Errorf("split %x: %d", split, none)
			}
		}
	}
}

// Each bit stands for its own node alone.
func TestEachBit(t *testing.T) {
	n := New()
	for alone := range 64 {
		n.Split(1 << alone)
		for from := range 64 {
			for to := range 64 {
				if n.Reach(from, to) != ((from == alone) == (to == alone)) {
					t.Errorf("%d alone: from %d to %d: %v", alone, from, to, n.Reach(from, to))
				}
			}
		}
	}
}

// Whom the split parts, what is between them can't be taken, and nothing is changed; all else goes on as ever.
func TestTakeOfParted(t *testing.T) {
	for _, split := range splits {
		sides := sidesOf(split)
		for _, from := range []int{0, 1, 31, 32, 62, 63} {
			for _, to := range []int{0, 1, 31, 32, 62, 63} {
				l := []one{{5, 5, "ahead"}, {from, to, "x"}, {6, 6, "behind"}}
				n := sent(l...)
				n.Split(split)
				want := l
				if got := told(n.Take(1)); sides[from] != sides[to] {
					if got != nobody {
						t.Errorf("split %x: from %d to %d: %s", split, from, to, got)
					}
				} else {
					want = []one{l[0], l[2]}
					if got != l[1].told() {
						t.Errorf("split %x: from %d to %d: %s", split, from, to, got)
					}
				}
				has(t, n, want...)
			}
		}
	}
}

// A split is nothing to Send, Look, Copy and Move.
func TestOthersOfParted(t *testing.T) {
	n := New()
	n.Split(1)
	n.Send(0, 1, []byte("a"))
	n.Send(1, 0, []byte("b"))
	n.Send(1, 2, []byte("c"))
	has(t, n, one{0, 1, "a"}, one{1, 0, "b"}, one{1, 2, "c"})
	if !n.Copy(0) || !n.Copy(1) || !n.Move(0, 2) {
		t.Error("Copy or Move is refused")
	}
	has(t, n, one{1, 0, "b"}, one{1, 2, "c"}, one{0, 1, "a"}, one{0, 1, "a"}, one{1, 0, "b"})
	for _, i := range []int{0, 2, 3, 4} {
		if got := told(n.Take(i)); got != nobody {
			t.Errorf("%d is %s", i, got)
		}
	}
	if got := told(n.Take(1)); got != (one{1, 2, "c"}).told() {
		t.Error("1 is", got)
	}
}

// In a full net a refused Take makes no room.
func TestTakeOfPartedInFull(t *testing.T) {
	var l []one
	for range 200 {
		l = append(l, one{1, 2, "x"})
	}
	n := sent(l...)
	n.Split(2)
	for i := range 200 {
		n.Take(i)
	}
	n.Send(1, 1, []byte("more"))
	if n.Copy(0) {
		t.Error("there was room for a copy")
	}
	has(t, n, l...)
}

// The split counts as it is when a letter is taken, not as it was when it was sent.
func TestSplitAnew(t *testing.T) {
	n := sent(one{1, 2, "a"}, one{2, 63, "b"}, one{63, 0, "c"})
	n.Split(1<<2 | 1<<63)
	for _, i := range []int{0, 2} {
		if got := told(n.Take(i)); got != nobody {
			t.Errorf("%d is %s", i, got)
		}
	}
	n.Split(1 << 2)
	for i := range 2 {
		if got := told(n.Take(i)); got != nobody {
			t.Errorf("%d is %s", i, got)
		}
	}
	has(t, n, one{1, 2, "a"}, one{2, 63, "b"}, one{63, 0, "c"})
	if got := told(n.Take(2)); got != (one{63, 0, "c"}).told() {
		t.Error("2 is", got)
	}
	n.Split(1<<1 | 1<<2)
	if got := told(n.Take(1)); got != nobody {
		t.Error("1 is", got)
	}
	if got := told(n.Take(0)); got != (one{1, 2, "a"}).told() {
		t.Error("0 is", got)
	}
	n.Split(math.MaxUint64)
	if got := told(n.Take(0)); got != (one{2, 63, "b"}).told() {
		t.Error("0 is", got)
	}
	has(t, n)
}
