package block

import (
	"strings"

	"scriptorium/api"
	"scriptorium/leaf"
)

// maxPadding is how many columns behind a marker may be the marker's: with more of them what follows is code.
const maxPadding = 4

// box is what all containers have: what was closed in them.
type box struct {
	extent
	kids []api.Block
	held bool // something was closed in it, be it gone
	gap  bool // two neighbours in it have a line between them that is neither's
}

func (b *box) hold(p part) {
	e := p.lines()
	if b.held && e.first > b.last+1 {
		b.gap = true
	}
	b.held = true
	b.last = max(b.last, e.last)
	if kid, ok := p.told(); ok {
		b.kids = append(b.kids, kid)
	}
}

// document is outermost, and no block itself.
type document struct {
	box
}

func (d *document) goesOn(line, bool) bool { return true }

func (d *document) told() (api.Block, bool) {
	return api.Block{Kids: d.kids}, true
}

type quote struct {
	box
}

func (q *quote) goesOn(l line, _ bool) bool {
	if l.Indent() > maxIndent || l.Next() != '>' {
		return false
	}
	passQuote(l)
	q.last = l.number
	return true
}

func (q *quote) told() (api.Block, bool) {
	return api.Block{Kind: api.Quote, Kids: q.kids}, true
}

func passQuote(l line) {
	l.Move(1)
	l.Skip(1)
}

func (r *reader) beginQuote(l line) fate {
	r.stand(&quote{box{extent: beginExtent(l)}})
	passQuote(l)
	return mayBegin
}

type list struct {
	box
	marker
}

func (s *list) goesOn(line, bool) bool { return true }

func (s *list) hold(p part) {
	s.box.hold(p)
	// Nothing but Items stands in a List.
	if p.(*item).gap {
		s.gap = true
	}
}

func (s *list) told() (api.Block, bool) {
	return api.Block{Kind: api.List, Ordered: s.ordered(), Start: s.number, Tight: !s.gap, Kids: s.kids}, true
}

type item struct {
	box
	width int
}

func (t *item) goesOn(l line, filled bool) bool {
	if l.Indent() >= t.width {
		l.Skip(t.width)
		return true
	}
	if !l.Blank() || !filled && len(t.kids) == 0 {
		return false
	}
	l.Skip(l.Indent())
	return true
}

func (t *item) told() (api.Block, bool) {
	return api.Block{Kind: api.Item, Kids: t.kids}, true
}

// marker is what an Item begins with.
type marker struct {
	sign         byte
	size, number int
	parts        bool // an Item of it may end a paragraph
}

func markerOf(s string) marker {
	sign, size, number := leaf.Marker(s)
	m := marker{sign: sign, size: size, number: number}
	m.parts = strings.Trim(s[size:], gaps) != "" && (number == 1 || !m.ordered())
	return m
}

func (m marker) ordered() bool { return m.sign == '.' || m.sign == ')' }

func (r *reader) beginItem(l line, m marker) fate {
	width := l.Indent() + m.size
	l.Move(m.size)
	width += padding(l)
	r.clear()
	if at, ok := r.innermost().(*list); !ok || at.sign != m.sign {
		r.stand(&list{box: box{extent: beginExtent(l)}, marker: m})
	}
	r.push(&item{box: box{extent: beginExtent(l)}, width: width})
	return mayBegin
}

// padding passes the columns behind a marker that are the marker's, and tells how many count.
func padding(l line) int {
	if l.Blank() {
		return 1
	}
	if n := l.Indent(); n <= maxPadding {
		return l.Skip(n)
	}
	return l.Skip(1)
}
