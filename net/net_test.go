package net

import (
	"fmt"
	"math"
	"strings"
	"testing"
)

// one is a letter as a test writes it: from, to, its bytes.
type one struct {
	from, to int
	text     string
}

// told is a letter as Look and Take answer it.
func told(from, to int, b []byte, ok bool) string {
	return fmt.Sprintf("%d %d %q %v", from, to, b, ok)
}

// nobody is what is told where there is no letter.
const nobody = `0 0 "" false`

func (l one) told() string { return told(l.from, l.to, []byte(l.text), true) }

// has holds all letters against these, by Look, and what stands beside them against none.
func has(t *testing.T, n *Net, want ...one) {
	t.Helper()
	if n.Len() != len(want) {
		t.Fatalf("Len is %d, not %d", n.Len(), len(want))
	}
	for i, l := range want {
		if got := told(n.Look(i)); got != l.told() {
			t.Errorf("the letter %d is %s, not %s", i, got, l.told())
		}
	}
	for _, i := range beside(len(want)) {
		if got := told(n.Look(i)); got != nobody {
			t.Errorf("the letter %d of %d is %s", i, len(want), got)
		}
	}
}

// beside are numbers of no letter, where there are so many.
func beside(size int) []int {
	return []int{math.MinInt, -1 << 32, -size, -2, -1, size, size + 1, 200, 256, 1 << 32, math.MaxInt}[min(size, 1)*2:]
}

// sent is a net with these.
func sent(l ...one) *Net {
	n := New()
	for _, l := range l {
		n.Send(l.from, l.to, []byte(l.text))
	}
	return n
}

// row are so many letters, no two alike.
func row(size int) []one {
	var l []one
	for i := range size {
		l = append(l, one{i % 64, (i + i/64 + 1) % 64, fmt.Sprint("letter ", i)})
	}
	return l
}

func TestExamples(t *testing.T) {
	n := New()
	n.Send(1, 2, []byte("a"))
	n.Send(2, 3, []byte("b"))
	if !n.Move(1, 0) || !n.Copy(0) || n.Len() != 3 {
		t.Error("there are", n.Len())
	}
	has(t, n, one{2, 3, "b"}, one{1, 2, "a"}, one{2, 3, "b"})
	n.Split(4)
	if got := told(n.Take(0)); got != nobody {
		t.Error("was taken:", got)
	}
	has(t, n, one{2, 3, "b"}, one{1, 2, "a"}, one{2, 3, "b"})
	n.Split(0)
	if got := told(n.Take(0)); got != (one{2, 3, "b"}).told() {
		t.Error("was taken:", got)
	}
	has(t, n, one{1, 2, "a"}, one{2, 3, "b"})
}

func TestNew(t *testing.T) {
	n := New()
	has(t, n)
	for from := range 64 {
		for to := range 64 {
			if !n.Reach(from, to) {
				t.Errorf("%d does not reach %d", from, to)
			}
		}
	}
}

// A letter is nodes and any bytes, as they are.
func TestSendOfAnyBytes(t *testing.T) {
	var every strings.Builder
	for c := range 256 {
		every.WriteByte(byte(c))
	}
	texts := []string{"", "\x00", "\xff\xfe", "a\r\n", every.String(), strings.Repeat("long ", 100000)}
	n := New()
	var want []one
	for i, text := range texts {
		n.Send(i, 63-i, []byte(text))
		want = append(want, one{i, 63 - i, text})
		has(t, n, want...)
	}
	n.Send(7, 7, nil)
	has(t, n, append(want, one{7, 7, ""})...)
}

// Each pair of the nodes' edges, and numbers far beyond them, at 0, 199 and 200 letters.
func TestSendOfNodes(t *testing.T) {
	nodes := []int{math.MinInt, -64, -1, 0, 1, 62, 63, 64, 65, 127, 256, 1 << 32, math.MaxInt}
	for _, size := range []int{0, 1, 198, 199, 200} {
		for _, from := range nodes {
			for _, to := range nodes {
				n, want := sent(row(size)...), row(size)
				n.Send(from, to, []byte("more"))
				if from >= 0 && from <= 63 && to >= 0 && to <= 63 && size < 200 {
					want = append(want, one{from, to, "more"})
				}
				has(t, n, want...)
			}
		}
	}
}

func TestSendOfEachNode(t *testing.T) {
	for from := range 64 {
		for to := range 64 {
			has(t, sent(one{from, to, "x"}), one{from, to, "x"})
		}
	}
}

// A full net loses what is sent, and takes letters again as soon as one is gone.
func TestSendOfMany(t *testing.T) {
	n := New()
	for i, l := range row(300) {
		n.Send(l.from, l.to, []byte(l.text))
		if n.Len() != min(i+1, 200) {
			t.Fatalf("%d of %d are under way", n.Len(), i+1)
		}
	}
	want := row(200)
	has(t, n, want...)
	n.Take(50)
	want = append(want[:50], want[51:]...)
	has(t, n, want...)
	for range 3 {
		n.Send(1, 2, []byte("again"))
		has(t, n, append(want, one{1, 2, "again"})...)
	}
}
