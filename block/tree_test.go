package block

import (
	"maps"
	"slices"
	"strings"
	"testing"

	"scriptorium/api"
	"scriptorium/leaf"
	"scriptorium/link"
	"scriptorium/runes"
)

// knot is a block of another reading of the chapter: all blocks stay in a tree, open or not, gone or not, each with the set of its lines.
type knot struct {
	kind       int // 0: the document
	up         *knot
	kids       []*knot
	open, gone bool
	own        []int // its lines, without those of what is in it
	rows       []string
	level      int
	width      int
	number     int
	sign       byte
	size       int // of a fence; 0: an indented Code
	indent     int
	info       string
	html       int
}

// spot is a place in a line: what follows, of which a tab that was begun is blanks, and the column.
type spot struct {
	rest   string
	column int
}

func (p *spot) indent() int {
	column := p.column
	for _, c := range []byte(p.rest) {
		switch c {
		case ' ':
			column++
		case '\t':
			column += 4 - column%4
		default:
			return column - p.column
		}
	}
	return column - p.column
}

func (p *spot) behind() string { return strings.TrimLeft(p.rest, " \t") }
func (p *spot) blank() bool    { return p.behind() == "" }

func (p *spot) skip(n int) {
	for range min(n, p.indent()) {
		if p.rest[0] == '\t' {
			p.rest = many(" ", 4-p.column%4) + p.rest[1:]
		}
		p.rest = p.rest[1:]
		p.column++
	}
}

// move passes blanks and tabs, and n other bytes, of which none is a tab.
func (p *spot) move(n int) {
	p.skip(p.indent())
	p.rest = p.rest[n:]
	p.column += n
}

type tree struct {
	root *knot
	left *knot // the outermost one that is left
	at   *spot
	line int
	defs []api.Def
}

// readTree is Parse by the other reading.
func readTree(s string) ([]api.Block, []api.Def) {
	r := &tree{root: &knot{open: true}}
	for i, line := range runes.Lines(s) {
		r.line, r.at, r.left = i, &spot{rest: line}, nil
		r.read()
	}
	for _, k := range r.chain()[1:] {
		r.shut(k)
	}
	return blocksOf(r.root.kids), r.defs
}

// chain is what is open, each within the one ahead.
func (r *tree) chain() []*knot {
	l := []*knot{r.root}
	for k := r.root; len(k.kids) > 0; {
		k = k.kids[len(k.kids)-1]
		if !k.open {
			break
		}
		l = append(l, k)
	}
	return l
}

func (r *tree) last() *knot {
	l := r.chain()
	return l[len(l)-1]
}

// shut closes a block, and all in it.
func (r *tree) shut(k *knot) {
	if !k.open {
		return
	}
	if len(k.kids) > 0 {
		r.shut(k.kids[len(k.kids)-1])
	}
	if k.kind == api.Para {
		r.takeOff(k)
	}
	for k.kind == api.Code && k.size == 0 && strings.Trim(k.rows[len(k.rows)-1], " \t") == "" {
		k.rows = k.rows[:len(k.rows)-1]
		k.own = k.own[:len(k.own)-1]
	}
	k.open = false
}

func (r *tree) takeOff(k *knot) {
	text := strings.Join(k.rows, "\n")
	for {
		d, n := link.Define(text)
		if n == 0 {
			break
		}
		if !slices.ContainsFunc(r.defs, func(o api.Def) bool { return o.Label == d.Label }) {
			r.defs = append(r.defs, d)
		}
		text = text[n:]
	}
	k.gone = text == ""
	k.rows = []string{strings.TrimRight(text, " \t")}
}

// begin opens a block on this line, where it must stand.
func (r *tree) begin(k *knot) *knot {
	if r.left != nil {
		r.shut(r.left)
		r.left = nil
	}
	if p := r.last(); p.kind == api.Para {
		r.shut(p)
	}
	if p := r.last(); p.kind == api.List && (k.kind != api.Item || p.sign != k.sign) {
		r.shut(p)
	}
	up := r.last()
	if k.kind == api.Item && up.kind != api.List {
		up = r.begin(&knot{kind: api.List, sign: k.sign, number: k.number})
	}
	k.up, k.open, k.own = up, true, []int{r.line}
	up.kids = append(up.kids, k)
	return k
}

func (r *tree) row(k *knot, s string) {
	k.rows = append(k.rows, s)
	k.own = append(k.own, r.line)
}

func (r *tree) read() {
	for _, k := range r.chain() {
		if !r.goesOn(k) {
			r.left = k
			break
		}
	}
	if r.left == nil && r.leafTakes(r.last()) {
		return
	}
	for r.begins() {
	}
}

func (r *tree) goesOn(k *knot) bool {
	switch k.kind {
	case api.Quote:
		if r.at.indent() > 3 || !strings.HasPrefix(r.at.behind(), ">") {
			return false
		}
		k.own = append(k.own, r.line)
		r.at.move(1)
		r.at.skip(1)
	case api.Item:
		in := slices.ContainsFunc(k.kids, func(o *knot) bool { return !o.gone })
		switch {
		case r.at.indent() >= k.width:
			r.at.skip(k.width)
		case r.at.blank() && in:
			r.at.skip(r.at.indent())
		default:
			return false
		}
	}
	return true
}

// leafTakes tells whether the line is done by the leaf that is open.
func (r *tree) leafTakes(k *knot) bool {
	switch {
	case k.kind == api.Code && k.size > 0:
		if r.at.indent() <= 3 && leaf.Closes(r.at.behind(), k.sign, k.size) {
			k.own = append(k.own, r.line)
			r.shut(k)
			return true
		}
		r.at.skip(k.indent)
		r.row(k, r.at.rest)
		return true
	case k.kind == api.Code:
		if r.at.indent() < 4 && !r.at.blank() {
			r.shut(k)
			return false
		}
		r.at.skip(4)
		r.row(k, r.at.rest)
		return true
	case k.kind == api.HTML:
		if k.html > 5 && r.at.blank() {
			r.shut(k)
			return false
		}
		r.row(k, r.at.rest)
		if leaf.Ends(k.html, r.at.rest) {
			r.shut(k)
		}
		return true
	}
	return false
}

func (r *tree) room() bool {
	n := 0
	for _, k := range r.chain() {
		if k == r.left {
			break
		}
		if k.kind == api.Quote || k.kind == api.Item {
			n++
		}
	}
	return n <= 23
}

// begins goes through the rows once, and tells whether it has to be done again.
func (r *tree) begins() bool {
	p := r.last()
	paragraph := p.kind == api.Para
	near := paragraph && r.left == nil
	behind := r.at.behind()
	if r.at.indent() > 3 {
		if paragraph || r.at.blank() {
			r.text(p)
			return false
		}
		k := r.begin(&knot{kind: api.Code})
		r.at.skip(4)
		k.rows = []string{r.at.rest}
		return false
	}
	if strings.HasPrefix(behind, ">") && r.room() {
		r.begin(&knot{kind: api.Quote})
		r.at.move(1)
		r.at.skip(1)
		return true
	}
	if level, text := leaf.Heading(behind); level > 0 {
		r.shut(r.begin(&knot{kind: api.Heading, level: level, rows: []string{text}}))
		return false
	}
	if sign, size, info := leaf.Fence(behind); size > 0 {
		r.begin(&knot{kind: api.Code, sign: sign, size: size, info: info, indent: r.at.indent()})
		return false
	}
	if kind := leaf.HTML(behind); kind >= 1 && kind <= 6 || kind == 7 && !paragraph {
		k := r.begin(&knot{kind: api.HTML, html: kind, rows: []string{r.at.rest}})
		if leaf.Ends(kind, r.at.rest) {
			r.shut(k)
		}
		return false
	}
	if level := leaf.Underline(behind); near && level > 0 {
		r.shut(p)
		if p.gone {
			return true
		}
		p.kind, p.level = api.Heading, level
		p.own = append(p.own, r.line)
		return false
	}
	if leaf.Rule(behind) {
		r.shut(r.begin(&knot{kind: api.Rule}))
		return false
	}
	return r.beginsItem(p, near)
}

func (r *tree) beginsItem(p *knot, near bool) bool {
	behind := r.at.behind()
	sign, size, number := leaf.Marker(behind)
	if size == 0 || !r.room() {
		r.text(p)
		return false
	}
	numbered := strings.IndexByte(".)", sign) >= 0
	if near && (strings.Trim(behind[size:], " \t") == "" || numbered && number != 1) {
		r.text(p)
		return false
	}
	width := r.at.indent() + size
	r.at.move(size)
	switch n := r.at.indent(); {
	case r.at.blank():
		width++
	case n < 5:
		width += n
		r.at.skip(n)
	default:
		width++
		r.at.skip(1)
	}
	r.begin(&knot{kind: api.Item, sign: sign, number: number, width: width})
	return true
}

func (r *tree) text(p *knot) {
	switch {
	case r.at.blank():
		if r.left != nil {
			r.shut(r.left)
		} else if p.kind == api.Para {
			r.shut(p)
		}
	case p.kind == api.Para:
		r.row(p, r.at.behind())
	default:
		r.begin(&knot{kind: api.Para, rows: []string{r.at.behind()}})
	}
}

// lines are all that belong to a block.
func (k *knot) lines() map[int]int {
	set := map[int]int{}
	for _, n := range k.own {
		set[n] = 1
	}
	for _, o := range k.kids {
		maps.Copy(set, o.lines())
	}
	return set
}

// apart tells whether two neighbours of some blocks have a line between them that belongs to neither.
func apart(l []*knot) bool {
	for i := 1; i < len(l); i++ {
		a, b := l[i-1].lines(), l[i].lines()
		for n := slices.Max(slices.Collect(maps.Keys(a))); n < slices.Min(slices.Collect(maps.Keys(b))); n++ {
			if a[n] == 0 && b[n] == 0 {
				return true
			}
		}
	}
	return false
}

func blocksOf(l []*knot) []api.Block {
	var out []api.Block
	for _, k := range l {
		if !k.gone {
			out = append(out, k.block())
		}
	}
	return out
}

func (k *knot) block() api.Block {
	b := api.Block{Kind: k.kind, Level: k.level, Info: k.info, Kids: blocksOf(k.kids)}
	switch k.kind {
	case api.List:
		b.Ordered = strings.IndexByte(".)", k.sign) >= 0
		b.Start = k.number
		b.Tight = !apart(k.kids) && !slices.ContainsFunc(k.kids, func(o *knot) bool { return apart(o.kids) })
	case api.Code, api.HTML:
		for _, row := range k.rows {
			b.Text += row + "\n"
		}
	default:
		b.Text = strings.Join(k.rows, "\n")
	}
	return b
}

// eachText calls f with every text of at most most pieces.
func eachText(pieces []string, most int, f func(string)) {
	f("")
	if most == 0 {
		return
	}
	for _, p := range pieces {
		eachText(pieces, most-1, func(s string) { f(p + s) })
	}
}

// eachByte calls f with every byte, as a text.
func eachByte(f func(s string)) {
	for i := range 256 {
		f(string([]byte{byte(i)}))
	}
}

// eachFrame calls f with every frame, each byte in place of its '@'.
func eachFrame(frames []string, f func(s string)) {
	for _, frame := range frames {
		eachByte(func(c string) { f(strings.Replace(frame, "@", c, 1)) })
	}
}

// eachLines calls f with texts of lines of which each means something to those ahead of it.
func eachLines(f func(s string)) {
	eachText([]string{"a\n", "> b\n", ">\n", "- c\n", "-\n", "\n", "  d\n", "    e\n", "```\n", "---\n", "[x]: y\n", "1. f\n", "  > - g\n", "===\n"}, 4, f)
	eachText([]string{"- a\n", "\n", "  - b\n", "    c\n", "-     d\n", "  ```\n", "  [x]: y\n", "      \n"}, 4, f)
	eachText([]string{"> - a\n", ">\n", "\n", ">   b\n", "> 2) c\n", "d\n", "> > e\n"}, 4, f)
	eachText([]string{"<div>\n", "<b>\n", "<!--\n", "-->\n", "\n", "a\n", "> <i>\n", "- <?\n"}, 4, f)
}

// eachMix calls f with texts of small pieces, and with every byte at some places.
func eachMix(f func(s string)) {
	eachText([]string{">", "-", " ", "\t", "a", "\n", "1."}, 6, f)
	eachText([]string{"- ", "> ", "    ", "\n", "a", "#", "="}, 6, f)
	eachText([]string{"~~~", "\n", "   ", "\t", "a", ">", "- "}, 6, f)
	eachText([]string{"[a]:", " ", "b", "\n", "'", "-", ">"}, 6, f)
	eachFrame([]string{"@", "a\n@", "@\na", "> a\n@", "- a\n@", "- a\n  @", "-@", "-@a", ">@a", "1@ a", "@ a\n@ b", "    @", "```\n@", "```\n@@@", "#@", "a\n\n@", "- a\n\n@", "<@", "<a@", "a\n-@", "[a]: b@"}, f)
}

// TestAnotherReading holds Parse against the tree.
func TestAnotherReading(t *testing.T) {
	kinds := map[int]int{}
	compare := func(s string) {
		l, d := Parse(s)
		wantL, wantD := readTree(s)
		if form(l) != form(wantL) || formDefs(d) != formDefs(wantD) {
			t.Fatalf("Parse(%q) is %s, %s, not %s, %s", s, form(l), formDefs(d), form(wantL), formDefs(wantD))
		}
		for _, b := range l {
			kinds[b.Kind]++
		}
		checkMeant(t, s, l, 0)
	}
	eachLines(compare)
	eachMix(compare)
	for _, kind := range []int{api.Quote, api.List, api.Heading, api.Para, api.Code, api.HTML, api.Rule} {
		if kinds[kind] < 200 {
			t.Errorf("kind %d was met %d times", kind, kinds[kind])
		}
	}
}
