package cursor

import (
	"strings"
	"testing"
)

// grid is a line laid out column by column: the chapter's words, said without
// a cursor. A place is one of its columns; its bytes' ends are kept beside.
type grid struct {
	line  string
	owner []int // the byte that takes this column
}

func lay(line string) grid {
	g := grid{line: line}
	for i := range len(line) {
		g.owner = append(g.owner, i)
		for line[i] == '\t' && len(g.owner)%4 != 0 {
			g.owner = append(g.owner, i)
		}
	}
	return g
}

func (g grid) byteAt(column int) string {
	return g.line[g.owner[column] : g.owner[column]+1]
}

// behind is the first column from this one on that no blank or tab takes.
func (g grid) behind(column int) int {
	for column < len(g.owner) && strings.Contains(" \t", g.byteAt(column)) {
		column++
	}
	return column
}

// rest is what follows from a column on.
func (g grid) rest(column int) string {
	if column == len(g.owner) {
		return ""
	}
	if column == 0 || g.owner[column] != g.owner[column-1] {
		return g.line[g.owner[column]:]
	}
	return " " + g.rest(column+1)
}

func (g grid) place(column int) place {
	b := g.behind(column)
	p := place{column: column, indent: b - column, blank: b == len(g.owner), rest: g.rest(column), behind: g.rest(b)}
	if !p.blank {
		p.next = p.behind[0]
	}
	return p
}

func (g grid) skip(column, n int) int {
	return min(g.behind(column), column+max(n, 0))
}

func (g grid) move(column, n int) int {
	column = g.behind(column)
	for ; n > 0 && column < len(g.owner); n-- {
		o := g.owner[column]
		for column < len(g.owner) && g.owner[column] == o {
			column++
		}
	}
	return column
}

// eachText calls f with every text of at most most pieces.
func eachText(pieces []string, most int, f func(string)) {
	f("")
	if most == 0 {
		return
	}
	for _, p := range pieces {
		eachText(pieces, most-1, func(s string) { f(p + s) })
	}
}

// step is a call of Skip, or of Move.
type step struct {
	move bool
	n    int
}

// run does steps on a cursor and on the grid, and holds them together.
func run(t *testing.T, line string, steps []step) {
	t.Helper()
	g, c, column := lay(line), New(line), 0
	for _, s := range steps {
		before := column
		if s.move {
			column = g.move(column, s.n)
			c.Move(s.n)
		} else {
			column = g.skip(column, s.n)
			if told := c.Skip(s.n); told != column-before {
				t.Fatalf("%q %v: Skip told %d, not %d", line, steps, told, column-before)
			}
		}
		if got, want := placeOf(c), g.place(column); got != want {
			t.Fatalf("%q %v: %+v, not %+v", line, steps, got, want)
		}
	}
}

func TestShortLinesAndSteps(t *testing.T) {
	var all []step
	for _, n := range []int{-1, 0, 1, 2, 3, 4, 5, 99} {
		all = append(all, step{false, n}, step{true, n})
	}
	eachText([]string{" ", "\t", "a", "\xff"}, 4, func(line string) {
		run(t, line, nil)
		for _, a := range all {
			for _, b := range all {
				for _, c := range all {
					run(t, line, []step{a, b, c})
				}
			}
		}
	})
}

// TestWhatFollows: Indent is what Skip of a large n tells, and Column grows
// by what Skip told.
func TestWhatFollows(t *testing.T) {
	eachText([]string{" ", "\t", "a"}, 5, func(line string) {
		for first := range 4 {
			for n := -1; n < 14; n++ {
				c := New(line)
				c.Move(first)
				at := c.Column()
				told := c.Skip(n)
				if c.Column() != at+told {
					t.Fatalf("%q: Column %d behind Skip(%d) of %d from %d", line, c.Column(), n, told, at)
				}
				indent := c.Indent()
				if told := c.Skip(most); told != indent {
					t.Fatalf("%q: Indent %d, but Skip told %d", line, indent, told)
				}
				if c.Indent() != 0 || c.Rest() != c.Behind() {
					t.Fatalf("%q: blanks are left: %+v", line, placeOf(c))
				}
			}
		}
	})
}

// TestTellingMovesNothing: what tells where the cursor is leaves it there.
func TestTellingMovesNothing(t *testing.T) {
	c := New(" \t\ta\t")
	for n := range 5 {
		c.Skip(n)
		if a, b := placeOf(c), placeOf(c); a != b {
			t.Errorf("told %+v, and then %+v", a, b)
		}
	}
}

// TestLongLine would last for minutes, were a step's cost that of its line.
func TestLongLine(t *testing.T) {
	const size = 1 << 20
	c := New(strings.Repeat("a\t", size))
	for i := range size {
		c.Move(1)
		if n := c.Skip(9); n != 3 {
			t.Fatalf("step %d: Skip told %d", i, n)
		}
	}
	if !c.Blank() || c.Column() != 4*size {
		t.Errorf("at column %d", c.Column())
	}
	tabs := New(strings.Repeat("\t", size))
	if n := tabs.Indent(); n != 4*size || !tabs.Blank() {
		t.Errorf("Indent of tabs alone is %d", n)
	}
	if n := tabs.Skip(4*size - 1); n != 4*size-1 || tabs.Rest() != " " {
		t.Errorf("Skip of tabs alone told %d", n)
	}
}
