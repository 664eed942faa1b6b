package inline

import (
	"math/rand"
	"regexp"
	"slices"
	"strings"
	"testing"

	"scriptorium/api"
	"scriptorium/escape"
	"scriptorium/link"
	"scriptorium/runes"
	"scriptorium/span"
)

// piece is a part of another reading of the chapter, in which all parts stand in one list, text byte by byte, and each row of the table is tried at each place.
type piece struct {
	told          api.Inline
	sign          byte // of delimiters
	number, left  int
	opens, closes bool
	opener        bool
	inactive      bool
	start, stop   int
}

// reading is a text, the pieces of what was read, and the places of all openers that ever were.
type reading struct {
	text    string
	defs    []api.Def
	at      int
	pieces  []*piece
	openers []int
}

// The rows of the table, and the gaps, of which a pattern tells all.
var (
	backslashFeed = regexp.MustCompile(`^\\\n *`)
	blanksFeed    = regexp.MustCompile(`^( *)\n *`)
	accents       = regexp.MustCompile("^`+")
	signs         = regexp.MustCompile(`^(\*+|_+)`)
	anyGap        = regexp.MustCompile(`^[ \t]*\n?[ \t]*`)
)

// readWords is what Parse is to tell.
func readWords(s string, defs []api.Def) []api.Inline {
	r := &reading{text: s, defs: defs}
	for r.at < len(s) {
		r.step()
	}
	return tell(withStress(r.pieces))
}

func (r *reading) put(x api.Inline, size int) *piece {
	p := &piece{told: x, start: r.at, stop: r.at + size}
	r.pieces = append(r.pieces, p)
	r.at += size
	return p
}

func (r *reading) step() {
	rest := r.text[r.at:]
	if m := backslashFeed.FindString(rest); m != "" {
		r.put(api.Inline{Kind: api.Hard}, len(m))
	} else if len(rest) > 1 && rest[0] == '\\' && strings.IndexByte(marks, rest[1]) >= 0 {
		r.put(api.Inline{Text: rest[1:2]}, 2)
	} else if m := blanksFeed.FindStringSubmatch(rest); m != nil {
		r.put(api.Inline{Kind: map[bool]int{true: api.Hard, false: api.Soft}[len(m[1]) >= 2]}, len(m[0]))
	} else if text, n := span.Code(rest); n > 0 {
		r.put(api.Inline{Kind: api.Span, Text: text}, n)
	} else if m := accents.FindString(rest); m != "" {
		r.put(api.Inline{Text: m}, len(m))
	} else if dest, text, n := span.Auto(rest); n > 0 {
		r.put(api.Inline{Kind: api.Link, Dest: dest, Kids: []api.Inline{{Text: text}}}, n)
	} else if n := span.Raw(rest); n > 0 {
		r.put(api.Inline{Kind: api.Raw, Text: rest[:n]}, n)
	} else if text, n := escape.Entity(rest); n > 0 {
		r.put(api.Inline{Text: text}, n)
	} else if m := signs.FindString(rest); m != "" {
		r.putRun(m)
	} else if strings.HasPrefix(rest, "![") {
		r.putOpener("![")
	} else if rest[0] == '[' {
		r.putOpener("[")
	} else if rest[0] == ']' {
		r.shut()
	} else {
		r.put(api.Inline{Text: rest[:1]}, 1)
	}
}

// class is that of a character: s a Space, p a Punct, a another one.
func class(c rune) byte {
	switch {
	case runes.Space(c):
		return 's'
	case runes.Punct(c):
		return 'p'
	}
	return 'a'
}

func (r *reading) putRun(run string) {
	ahead := []rune("\n" + r.text[:r.at])
	behind := []rune(r.text[r.at+len(run):] + "\n")
	p := r.put(api.Inline{Text: run}, len(run))
	p.sign, p.number, p.left = run[0], len(run), len(run)
	p.opens, p.closes = does(run[:1], class(ahead[len(ahead)-1]), class(behind[0]))
}

func (r *reading) putOpener(mark string) {
	r.openers = append(r.openers, r.at)
	r.put(api.Inline{Text: mark}, len(mark)).opener = true
}

// shut is III.
func (r *reading) shut() {
	last := -1
	for i, p := range r.pieces {
		if p.opener {
			last = i
		}
	}
	if last < 0 {
		r.put(api.Inline{Text: "]"}, 1)
		return
	}
	o := r.pieces[last]
	o.opener = false
	def, size := r.target(o)
	if o.told.Text == "[" && o.inactive || size == 0 {
		r.put(api.Inline{Text: "]"}, 1)
		return
	}
	x := api.Inline{Kind: api.Image, Dest: def.Dest, Title: def.Title, Kids: tell(withStress(r.pieces[last+1:]))}
	r.pieces = r.pieces[:last]
	if o.told.Text == "[" {
		x.Kind = api.Link
		for _, p := range r.pieces {
			p.inactive = true
		}
	}
	r.put(x, size)
}

// target is what fits behind a closer, and its bytes with the closer.
func (r *reading) target(o *piece) (api.Def, int) {
	behind := r.text[r.at+1:]
	for _, way := range []string{"", "d", "dt"} {
		if def, size := place(behind, way); size > 0 {
			return def, 1 + size
		}
	}
	if label, size := link.Label(behind); size > 0 {
		return r.find(label, 1+size)
	}
	for _, at := range r.openers {
		if at > o.start {
			return api.Def{}, 0
		}
	}
	between := r.text[o.stop:r.at]
	if label, _ := link.Label("[" + between + "]"); label != between || between == "" {
		return api.Def{}, 0
	}
	return r.find(between, len("]")+len(behind)-len(strings.TrimPrefix(behind, "[]")))
}

func (r *reading) find(label string, size int) (api.Def, int) {
	i := slices.IndexFunc(r.defs, func(d api.Def) bool { return d.Label == runes.Fold(label) })
	if i < 0 {
		return api.Def{}, 0
	}
	return r.defs[i], size
}

// place reads what is in round brackets one way: with nothing, with where it leads (d), or with a title, too (t).
func place(s, way string) (api.Def, int) {
	var def api.Def
	rest, ok := strings.CutPrefix(s, "(")
	take := func(size int) { ok, rest = ok && size > 0, rest[size:] }
	rest = rest[len(anyGap.FindString(rest)):]
	size := 0
	if way != "" {
		def.Dest, size = link.Dest(rest)
		take(size)
	}
	if way == "dt" {
		take(len(anyGap.FindString(rest)))
		def.Title, size = link.Title(rest)
		take(size)
	}
	rest = rest[len(anyGap.FindString(rest)):]
	rest, closed := strings.CutPrefix(rest, ")")
	if !ok || !closed {
		return api.Def{}, 0
	}
	return def, len(s) - len(rest)
}

// withStress is a row of pieces, with emphasis in the place of delimiters.
func withStress(l []*piece) []*piece {
	l = slices.Clone(l)
	for i := 0; i < len(l); i++ {
		for l[i].closes && l[i].left > 0 {
			k := nearest(l, i)
			if k < 0 {
				break
			}
			kind, n := api.Emph, 1
			if l[k].left > 1 && l[i].left > 1 {
				kind, n = api.Strong, 2
			}
			l[k].left -= n
			l[i].left -= n
			l = slices.Replace(l, k+1, i, &piece{told: api.Inline{Kind: kind, Kids: tell(l[k+1 : i])}})
			i = k + 2
		}
	}
	return l
}

func nearest(l []*piece, closer int) int {
	for k := closer - 1; k >= 0; k-- {
		a, b := l[k], l[closer]
		both := a.opens && a.closes || b.opens && b.closes
		three := (a.number+b.number)%3 == 0 && !(a.number%3 == 0 && b.number%3 == 0)
		if a.sign == b.sign && a.opens && a.left >= 1 && !(both && three) {
			return k
		}
	}
	return -1
}

// tell is pieces as inlines, neighbouring texts as one, and no empty one.
func tell(l []*piece) []api.Inline {
	var out []api.Inline
	for _, p := range l {
		x := p.told
		if p.sign != 0 {
			x.Text = x.Text[:p.left]
		}
		switch n := len(out); {
		case x.Kind != api.Text:
			out = append(out, x)
		case x.Text == "":
		case n > 0 && out[n-1].Kind == api.Text:
			out[n-1].Text += x.Text
		default:
			out = append(out, x)
		}
	}
	return out
}

// same is form of two, held against each other without being written.
func same(a, b []api.Inline) bool {
	return slices.EqualFunc(a, b, func(x, y api.Inline) bool {
		return x.Kind == y.Kind && x.Text == y.Text && x.Dest == y.Dest && x.Title == y.Title && same(x.Kids, y.Kids)
	})
}

// checkWords holds Parse of a text against the other reading.
func checkWords(t *testing.T, s string) {
	t.Helper()
	got := Parse(s, known())
	if want := readWords(s, known()); !same(got, want) {
		t.Fatalf("Parse(%q) is %s, not %s", s, form(got), form(want))
	}
	if f := fault(got); f != "" {
		t.Fatalf("Parse(%q): %s", s, f)
	}
}

// kinds are pieces of texts that have to do with each other, and how many of them a text of all short ones has.
func kinds() []struct {
	most   int
	pieces []string
} {
	return []struct {
		most   int
		pieces []string
	}{
		{8, []string{"*", "a", " ", "."}},
		{7, []string{"*", "_", "a", " ", "."}},
		{7, []string{"*", "**", "***", "a", " "}},
		{7, []string{"_", "__", "*", ".", "a"}},
		{5, []string{"*", "_", "a", "\u00a0", "\u00a1", "\xa0", "\xa1", "\xc2", "\u20ac"}},
		{6, []string{"[", "]", "(", ")", "!", "x"}},
		{6, []string{"[", "](b)", "![", "[x]", "]", "*", "a"}},
		{4, []string{"[x]", "[]", "[y z]", "[a]", "[", "]", "(", ")", "`", "\\", "!"}},
		{5, []string{"\\", "`", "<", ">", "\n", " ", "&", "amp;", "a"}},
		{5, []string{"[", "]", "`", "``", "\\", "<b>", "<ab:c>", "](d)", "*", "&#42;"}},
	}
}

// TestShortTexts goes over all short texts of some pieces.
func TestShortTexts(t *testing.T) {
	for _, k := range kinds() {
		t.Run(strings.Join(k.pieces, "|"), func(t *testing.T) {
			t.Parallel()
			eachText(k.pieces, k.most, func(s string) { checkWords(t, s) })
		})
	}
}

// TestShortPlaces goes over all that is short behind a closer and a round bracket.
func TestShortPlaces(t *testing.T) {
	eachText([]string{"(", ")", " ", "\n", "\t", "<", ">", "\"", "'", "u", "\\"}, 4, func(s string) {
		checkWords(t, "[x]("+s)
		checkWords(t, "![a](u"+s+")")
	})
}

// TestLongTexts goes over longer texts of all pieces, by a row of numbers that is always the same.
func TestLongTexts(t *testing.T) {
	var all []string
	for _, k := range kinds() {
		all = append(all, k.pieces...)
	}
	draw := rand.New(rand.NewSource(8))
	for range 40000 {
		s := ""
		for range 5 + draw.Intn(30) {
			s += all[draw.Intn(len(all))]
		}
		checkWords(t, s)
	}
}
