package block

import (
	"strings"

	"scriptorium/api"
	"scriptorium/leaf"
)

// codeIndent is how many columns of an indented Code's lines are not its own.
const codeIndent = 4

// The kinds of HTML that no line ends but a Blank one; the second one ends no paragraph.
const (
	blockHTML = 6
	tagHTML   = 7
)

// gaps are the bytes of which a Blank line is made.
const gaps = " \t"

// body is what all parts of lines have: these.
type body struct {
	extent
	rows []string
}

func beginBody(l line) body { return body{extent: beginExtent(l)} }

func (b *body) add(l line, s string) {
	b.rows = append(b.rows, s)
	b.last = l.number
}

// ended is rows with a line feed behind each.
func ended(rows []string) string {
	if len(rows) == 0 {
		return ""
	}
	return strings.Join(rows, "\n") + "\n"
}

// para is a Para, or, once it was underlined, a Heading of a level.
type para struct {
	body
	level int
}

func (p *para) takes(line) (fate, bool) { return mayBegin, true }

func (p *para) text() string {
	return strings.TrimRight(strings.Join(p.rows, "\n"), gaps)
}

func (p *para) told() (api.Block, bool) {
	if len(p.rows) == 0 {
		return api.Block{}, false
	}
	if p.level > 0 {
		return api.Block{Kind: api.Heading, Level: p.level, Text: p.text()}, true
	}
	return api.Block{Kind: api.Para, Text: p.text()}, true
}

// underline makes the open Para a Heading, if it is more than definitions.
func (r *reader) underline(l line, level int) fate {
	p := r.innermost().(*para)
	r.defs.takeOff(p)
	if len(p.rows) == 0 {
		r.close()
		return mayBegin
	}
	p.level = level
	p.last = l.number
	r.close()
	return isDone
}

type fenced struct {
	body
	sign   byte
	size   int
	indent int
	info   string
}

func (c *fenced) takes(l line) (fate, bool) {
	if l.Indent() <= maxIndent && leaf.Closes(l.Behind(), c.sign, c.size) {
		c.last = l.number
		return isDone, false
	}
	l.Skip(c.indent)
	c.add(l, l.Rest())
	return isDone, true
}

func (c *fenced) told() (api.Block, bool) {
	return api.Block{Kind: api.Code, Text: ended(c.rows), Info: c.info}, true
}

// indented is Code without fences. Its last line is no Blank one: as long as none but these follow, they may have to be taken away.
type indented struct {
	body
}

func (c *indented) takes(l line) (fate, bool) {
	if l.Indent() < codeIndent && !l.Blank() {
		return mayBegin, false
	}
	c.take(l)
	return isDone, true
}

func (c *indented) take(l line) {
	last := l.number
	if l.Blank() {
		last = c.last
	}
	l.Skip(codeIndent)
	c.add(l, l.Rest())
	c.last = last
}

func (c *indented) told() (api.Block, bool) {
	return api.Block{Kind: api.Code, Text: ended(c.rows[:c.last-c.first+1])}, true
}

func (r *reader) beginIndented(l line) fate {
	if r.hasParagraph() || l.Blank() {
		return isText
	}
	c := &indented{beginBody(l)}
	c.take(l)
	r.stand(c)
	return isDone
}

type html struct {
	body
	kind int
}

func (h *html) takes(l line) (fate, bool) {
	if h.kind >= blockHTML && l.Blank() {
		return mayBegin, false
	}
	h.add(l, l.Rest())
	return isDone, !leaf.Ends(h.kind, l.Rest())
}

func (h *html) told() (api.Block, bool) {
	return api.Block{Kind: api.HTML, Text: ended(h.rows)}, true
}

func (r *reader) beginHTML(l line, kind int) fate {
	h := &html{body: beginBody(l), kind: kind}
	r.stand(h)
	if _, stays := h.takes(l); !stays {
		r.close()
	}
	return isDone
}

// whole is a block of one line, to which no other belongs.
type whole struct {
	extent
	block api.Block
}

func (w *whole) told() (api.Block, bool) { return w.block, true }

func (r *reader) beginWhole(l line, b api.Block) fate {
	r.stand(&whole{beginExtent(l), b})
	r.close()
	return isDone
}
