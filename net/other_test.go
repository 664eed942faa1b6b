package net

import (
	"fmt"
	"math/rand/v2"
	"strings"
	"testing"
)

// call is one of a net's calls, and what it is handed.
type call struct {
	what, text string
	i, k       int
	sides      uint64
}

// netlike is what Net and another reading of it have.
type netlike interface {
	Send(from, to int, b []byte)
	Len() int
	Look(i int) (int, int, []byte, bool)
	Take(i int) (int, int, []byte, bool)
	Copy(i int) bool
	Move(i, k int) bool
	Split(sides uint64)
	Reach(from, to int) bool
}

// does is what a call answers.
func does(n netlike, c call) string {
	switch c.what {
	case "send":
		n.Send(c.i, c.k, []byte(c.text))
	case "look":
		return told(n.Look(c.i))
	case "take":
		return told(n.Take(c.i))
	case "copy":
		return fmt.Sprint(n.Copy(c.i))
	case "move":
		return fmt.Sprint(n.Move(c.i, c.k))
	case "split":
		n.Split(c.sides)
	case "reach":
		return fmt.Sprint(n.Reach(c.i, c.k))
	}
	return ""
}

// all is what a net tells by the calls that change nothing.
func all(n netlike) string {
	var b strings.Builder
	fmt.Fprint(&b, n.Len(), n.Reach(0, 63), n.Reach(1, 2), n.Reach(63, 62))
	for i := -1; i <= n.Len(); i++ {
		b.WriteString(" " + told(n.Look(i)))
	}
	return b.String()
}

// other is a net read once more: a list of texts, made anew by each call; the nodes that stand on the other side are names in a text.
type other struct {
	list []string
	far  string
}

func name(node int) string { return fmt.Sprintf("<%d>", node) }

func known(node int) bool {
	return strings.Contains("<0><1><2><3><4><5><6><7><8><9>", name(node)) || node > 9 && node < 64
}

func (o *other) Send(from, to int, b []byte) {
	if known(from) && known(to) && len(o.list) != 200 {
		o.list = append(o.without(-1), fmt.Sprintf("%d %d %x", from, to, b))
	}
}

func (o *other) Len() int { return len(o.list) }

func (o *other) there(i int) bool { return i >= 0 && i < len(o.list) }

func (o *other) Look(i int) (int, int, []byte, bool) {
	if !o.there(i) {
		return 0, 0, nil, false
	}
	var from, to int
	var b []byte
	fmt.Sscanf(o.list[i], "%d %d %x", &from, &to, &b)
	return from, to, b, true
}

// without is all but the letter i.
func (o *other) without(i int) []string {
	var l []string
	for j, text := range o.list {
		if j != i {
			l = append(l, text)
		}
	}
	return l
}

func (o *other) Take(i int) (int, int, []byte, bool) {
	from, to, b, ok := o.Look(i)
	if ok && o.Reach(from, to) {
		o.list = o.without(i)
		return from, to, b, true
	}
	return 0, 0, nil, false
}

func (o *other) Copy(i int) bool {
	if !o.there(i) || len(o.list) == 200 {
		return false
	}
	o.list = append(o.without(-1), o.list[i])
	return true
}

func (o *other) Move(i, k int) bool {
	if !o.there(i) || !o.there(k) {
		return false
	}
	rest := o.without(i)
	var l []string
	for len(l) < k {
		l, rest = append(l, rest[0]), rest[1:]
	}
	o.list = append(append(l, o.list[i]), rest...)
	return true
}

func (o *other) Split(sides uint64) {
	o.far = ""
	for node := range 64 {
		if fmt.Sprintf("%064b", sides)[63-node] == '1' {
			o.far += name(node)
		}
	}
}

func (o *other) Reach(from, to int) bool {
	return known(from) && known(to) && strings.Contains(o.far, name(from)) == strings.Contains(o.far, name(to))
}

// checkRow holds a row of calls against the other reading, call by call.
func checkRow(t *testing.T, row []call) {
	t.Helper()
	n, o := New(), &other{}
	for i, c := range row {
		got, want := does(n, c), does(o, c)
		if got != want {
			t.Fatalf("%v answers %s, not %s", row[:i+1], got, want)
		}
		if got, want := all(n), all(o); got != want {
			t.Fatalf("behind %v: %s, not %s", row[:i+1], got, want)
		}
	}
}

// fewCalls are such as short rows are made of.
var fewCalls = []call{
	{what: "send", i: 1, k: 2, text: "x"},
	{what: "send", i: 63, k: 0, text: ""},
	{what: "send", i: 64, k: 0, text: "y"},
	{what: "take", i: 0},
	{what: "take", i: 1},
	{what: "copy", i: 0},
	{what: "copy", i: 2},
	{what: "move", i: 0, k: 2},
	{what: "move", i: 1, k: 0},
	{what: "move", i: 0, k: 1},
	{what: "split", sides: 1<<63 | 2},
	{what: "split"},
}

// All rows of three calls, on a new net and on one with some letters.
func TestShortRows(t *testing.T) {
	begin := []call{{what: "send", i: 1, k: 2, text: "a"}, {what: "send", i: 2, k: 63, text: "b"}, {what: "send", i: 0, k: 0, text: "c"}}
	for _, a := range fewCalls {
		for _, b := range fewCalls {
			for _, c := range fewCalls {
				checkRow(t, []call{a, b, c})
				checkRow(t, append(begin[:3:3], a, b, c))
			}
		}
	}
}

// draws are numbers without an order to be seen, the same ones from the same start.
func draws(start int) func(n int) int {
	return rand.New(rand.NewPCG(uint64(start), 18)).IntN
}

// longRow is a row of calls of all kinds, most of which can be done.
func longRow(start, size int) []call {
	draw := draws(start)
	kinds := []string{"send", "send", "send", "send", "look", "take", "take", "copy", "move", "move", "split", "reach"}
	nodes := []int{0, 1, 2, 3, 3, 62, 63, 0, 1, 2, 64, -1}
	most := 2 + draw(10)
	var row []call
	for i := range size {
		c := call{what: kinds[draw(len(kinds))], text: strings.Repeat(fmt.Sprint(i, ","), draw(4))}
		switch c.what {
		case "send", "reach":
			c.i, c.k = nodes[draw(len(nodes))], nodes[draw(len(nodes))]
		case "split":
			c.sides = []uint64{0, 0, 1, 2, 3, 4, 1 << 63, 1<<63 | 5, 1 << 62}[draw(9)]
		default:
			c.i, c.k = draw(most)-1, draw(most)-1
		}
		row = append(row, c)
	}
	return row
}

func TestLongRows(t *testing.T) {
	for start := range 300 {
		checkRow(t, longRow(start, 80))
	}
}

// Rows in which a net is full again and again.
func TestFullRows(t *testing.T) {
	draw := draws(5)
	var row []call
	for i := range 190 {
		row = append(row, call{what: "send", i: i % 4, k: i % 64, text: fmt.Sprint(i)})
	}
	for i := range 250 {
		what := []string{"send", "copy", "copy", "take", "move", "move", "split"}[draw(7)]
		c := call{what: what, i: draw(203) - 1, k: draw(203) - 1, sides: uint64(draw(4) / 3 << draw(5)), text: fmt.Sprint("more", i)}
		if what == "send" {
			c.i, c.k = c.i%66, c.k%66
		}
		row = append(row, c)
	}
	checkRow(t, row)
}

// What is taken was sent, as often as it was sent and copied at most.
func TestTakenWasSent(t *testing.T) {
	for start := range 100 {
		n := New()
		there, taken := map[string]int{}, map[string]int{}
		for _, c := range longRow(start, 200) {
			before := n.Len()
			from, to, b, _ := n.Look(c.i)
			got := does(n, c)
			switch {
			case c.what == "send" && n.Len() > before:
				there[told(c.i, c.k, []byte(c.text), true)]++
			case c.what == "copy" && n.Len() > before:
				there[told(from, to, b, true)]++
			case c.what == "take" && got != nobody:
				taken[got]++
			}
		}
		for l, times := range taken {
			if times > there[l] {
				t.Errorf("%s was sent or copied %d times, and taken %d times", l, there[l], times)
			}
		}
		if len(taken) == 0 {
			t.Error("nothing was taken")
		}
	}
}
