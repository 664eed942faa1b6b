package net

import (
	"testing"
)

// What is sent is not kept, nor is what stands behind it in memory: who owns it may write over it, and finds it as it was.
func TestHandedIn(t *testing.T) {
	n := New()
	all := []byte("abcdef")
	n.Send(1, 2, all[:2])
	n.Send(2, 3, all[2:4])
	n.Send(3, 4, all[:2])
	n.Copy(0)
	n.Move(3, 1)
	n.Take(0)
	if string(all) != "abcdef" {
		t.Errorf("what was handed in is %q", all)
	}
	copy(all, "!!!!!!")
	has(t, n, one{1, 2, "ab"}, one{2, 3, "cd"}, one{3, 4, "ab"})
}

// turn writes over all of what was told, and behind it.
func turn(b []byte) {
	for i := range b {
		b[i] = '!'
	}
	_ = append(b, "!!!!!!!!"...)
}

func TestLookApart(t *testing.T) {
	n := sent(one{1, 2, "abc"}, one{2, 3, "def"}, one{3, 4, ""})
	n.Copy(0)
	_, _, kept, _ := n.Look(0)
	for i := range 4 {
		_, _, b, _ := n.Look(i)
		turn(b)
	}
	has(t, n, one{1, 2, "abc"}, one{2, 3, "def"}, one{3, 4, ""}, one{1, 2, "abc"})
	if string(kept) != "abc" {
		t.Errorf("the other one is %q", kept)
	}
}

func TestTakeApart(t *testing.T) {
	n := sent(one{1, 2, "abc"}, one{2, 3, "def"})
	n.Copy(0)
	n.Copy(2)
	_, _, looked, _ := n.Look(0)
	_, _, taken, _ := n.Take(0)
	turn(taken)
	has(t, n, one{2, 3, "def"}, one{1, 2, "abc"}, one{1, 2, "abc"})
	_, _, next, _ := n.Take(1)
	if string(looked) != "abc" || string(next) != "abc" {
		t.Errorf("the others are %q and %q", looked, next)
	}
	turn(next)
	has(t, n, one{2, 3, "def"}, one{1, 2, "abc"})
	n.Send(4, 5, []byte("xyz"))
	if string(taken) != "!!!" || string(next) != "!!!" || string(looked) != "abc" {
		t.Errorf("what was taken is %q, %q", taken, next)
	}
}

// A copy is a letter of its own, whichever of the two is told, and written over.
func TestCopyApart(t *testing.T) {
	for i := range 2 {
		for _, tell := range []func(n *Net, i int) (int, int, []byte, bool){(*Net).Look, (*Net).Take} {
			n := sent(one{1, 2, "abc"})
			n.Copy(0)
			_, _, b, _ := tell(n, i)
			turn(b)
			for n.Len() > 0 {
				if got := told(n.Take(0)); got != (one{1, 2, "abc"}).told() {
					t.Errorf("is %s", got)
				}
			}
		}
	}
}

// Two nets have nothing to do with each other.
func TestTwoNets(t *testing.T) {
	a, b := New(), New()
	text := []byte("abc")
	a.Send(1, 2, text)
	b.Send(1, 2, text)
	a.Split(2)
	a.Copy(0)
	has(t, a, one{1, 2, "abc"}, one{1, 2, "abc"})
	has(t, b, one{1, 2, "abc"})
	if a.Reach(1, 2) || !b.Reach(1, 2) {
		t.Error("the split is the other's, too")
	}
	_, _, got, ok := b.Take(0)
	turn(got)
	if !ok || b.Len() != 0 {
		t.Error("could not be taken")
	}
	has(t, a, one{1, 2, "abc"}, one{1, 2, "abc"})
	for start := range 20 {
		first, second := longRow(start, 60), longRow(start+1000, 60)
		checkTurns(t, first, second)
	}
}

// checkTurns: two nets that are called by turns each tell what they tell alone.
func checkTurns(t *testing.T, first, second []call) {
	t.Helper()
	a, b, alone, other := New(), New(), New(), New()
	for i := range first {
		gotA, gotB := does(a, first[i])+all(a), does(b, second[i])+all(b)
		if gotA != does(alone, first[i])+all(alone) {
			t.Fatalf("%v: %s", first[:i+1], gotA)
		}
		if gotB != does(other, second[i])+all(other) {
			t.Fatalf("%v: %s", second[:i+1], gotB)
		}
	}
}

// What is gone is not kept: letters of a million bytes each, more than may be under way.
func TestNothingIsKept(t *testing.T) {
	n, long := New(), make([]byte, 1<<20)
	for range 300 {
		n.Send(1, 2, long)
		n.Copy(0)
		n.Move(1, 0)
		n.Take(0)
		n.Take(0)
		if n.Len() != 0 {
			t.Fatal("there are", n.Len())
		}
	}
	for _, l := range n.letters[:cap(n.letters)] {
		if l.bytes != nil {
			t.Error("bytes of a letter that is gone are kept")
		}
	}
}
