package link

import (
	"fmt"
	"regexp"
	"strings"
	"testing"

	"scriptorium/api"
	"scriptorium/runes"
)

// definition is all that Define tells.
type definition struct {
	def  api.Def
	size int
}

func definitionOf(s string) definition {
	def, size := Define(s)
	return definition{def, size}
}

func (d definition) String() string {
	return fmt.Sprintf("%q, %q, %q, %d", d.def.Label, d.def.Dest, d.def.Title, d.size)
}

func define(label, dest, title string, size int) definition {
	return definition{api.Def{Label: label, Dest: dest, Title: title}, size}
}

func checkDefine(t *testing.T, s string, want definition) {
	t.Helper()
	if got := definitionOf(s); got != want {
		t.Fatalf("Define(%q) is %v, not %v", s, got, want)
	}
}

func TestDefineCases(t *testing.T) {
	none := definition{}
	cases := map[string]definition{
		"[Foo]: /u \"t\"\n":  define("foo", "/u", "t", 14),
		"[Foo]: /u \"t\"\nx": define("foo", "/u", "t", 14),
		"[a]: b c":           none,
		"[a]: b\n\"c":        define("a", "b", "", 7),

		"":                             none,
		"\n":                           none,
		"a":                            none,
		"[a]":                          none,
		"[a]:":                         none,
		"[a]: ":                        none,
		"[a]:\n":                       none,
		"[a]: \n\t":                    none,
		"[a]:\n\nb":                    none,
		"[a]: \n \n b":                 none,
		"[a]: \n 'b'":                  define("a", "'b'", "", 10),
		"[]: b":                        none,
		"[ ]: b":                       none,
		"[\u00a0]: b":                  none,
		"[a: b":                        none,
		"a]: b":                        none,
		"[a[b]: c":                     none,
		"[a] : b":                      none,
		"[a]\n: b":                     none,
		"[a]b":                         none,
		"[a];b":                        none,
		"[a]\uff1a b":                  none,
		"![a]: b":                      none,
		"\\[a]: b":                     none,
		"x[a]: b":                      none,
		"[a]:b":                        define("a", "b", "", 5),
		"[a]::b":                       define("a", ":b", "", 6),
		"[a]:\tb":                      define("a", "b", "", 6),
		"[a]:\nb":                      define("a", "b", "", 6),
		"[a]: \t \n \t b":              define("a", "b", "", 12),
		"[a]: b":                       define("a", "b", "", 6),
		"[a]: b\n":                     define("a", "b", "", 7),
		"[a]: b\n\n":                   define("a", "b", "", 7),
		"[a]: b \t":                    define("a", "b", "", 8),
		"[a]: b \t\n c":                define("a", "b", "", 9),
		"[a]: b\r":                     none,
		"[a]: b\r\n":                   none,
		"[a]: b\x00":                   none,
		"[a]: b\x0c":                   none,
		"[a]: b\u00a0":                 define("a", "b\u00a0", "", 8),
		"[a]: <b c>":                   define("a", "b c", "", 10),
		"[a]: <>":                      define("a", "", "", 7),
		"[a]:<>":                       define("a", "", "", 6),
		"[a]: <> 't'":                  define("a", "", "t", 11),
		"[a]: <>\n":                    define("a", "", "", 8),
		"[a]: <>b":                     none,
		"[a]: <b":                      none,
		"[a]: <b\nc>":                  none,
		"[a]: <b>c":                    none,
		"[a]: <b>'t'":                  none,
		"[a]: <b>(t)":                  none,
		"[a]: <b> (t)":                 define("a", "b", "t", 12),
		"[a]: <b>\n(t)":                define("a", "b", "t", 12),
		"[a]: b(t)":                    define("a", "b(t)", "", 9),
		"[a]: b(c":                     none,
		"[a]: b)":                      none,
		"[a]: )":                       none,
		"[a]: b)c 't'":                 none,
		"[a]: \x7f":                    none,
		"[a]: b 't'":                   define("a", "b", "t", 10),
		"[a]: b\t't'":                  define("a", "b", "t", 10),
		"[a]: b\n't'":                  define("a", "b", "t", 10),
		"[a]: b \t \n\t 't' \t\nc":     define("a", "b", "t", 18),
		"[a]: b 't'\n\n":               define("a", "b", "t", 11),
		"[a]: b (t)\n'u'":              define("a", "b", "t", 11),
		"[a]: b ''":                    define("a", "b", "", 9),
		"[a]: b\n''\nc":                define("a", "b", "", 10),
		"[a]: b't'":                    define("a", "b't'", "", 9),
		"[a]: b 't' c":                 none,
		"[a]: b 't'c":                  none,
		"[a]: b 't''":                  none,
		"[a]: b 't' 'u'":               none,
		"[a]: b 't":                    none,
		"[a]: b 't\n":                  none,
		"[a]: b (t(u))":                none,
		"[a]: b 't\n\nu'":              none,
		"[a]: b 't\nu'":                define("a", "b", "t\nu", 12),
		"[a]: b\n't\nu'\n":             define("a", "b", "t\nu", 13),
		"[a]: b\n't\n\nu'":             define("a", "b", "", 7),
		"[a]: b\n't' c":                define("a", "b", "", 7),
		"[a]: b\n't'c":                 define("a", "b", "", 7),
		"[a]: b\n't' \\":               define("a", "b", "", 7),
		"[a]: b \t\n 't' 'u'":          define("a", "b", "", 9),
		"[a]: b\n(t(u))":               define("a", "b", "", 7),
		"[a]: b\n\n't'":                define("a", "b", "", 7),
		"[a]: b\n \n't'":               define("a", "b", "", 7),
		"[a]: b \n\n 't'":              define("a", "b", "", 8),
		"[a]: b\n[c]: d":               define("a", "b", "", 7),
		"[a]: b\nc 't'":                define("a", "b", "", 7),
		"[a]: <b>\n't":                 define("a", "b", "", 9),
		"[a]: <>\n't":                  define("a", "", "", 8),
		"[a]: b\n'":                    define("a", "b", "", 7),
		" [a]: b":                      define("a", "b", "", 7),
		"  [a]: b":                     define("a", "b", "", 8),
		"   [a]: b":                    define("a", "b", "", 9),
		"    [a]: b":                   none,
		"     [a]: b":                  none,
		"\t[a]: b":                     none,
		" \t[a]: b":                    none,
		"\n[a]: b":                     none,
		"   ":                          none,
		"   a":                         none,
		"   [a]: b 't'\nc":             define("a", "b", "t", 14),
		"[ A\n\tB ]: c":                define("a b", "c", "", 11),
		"[a\nb]: c":                    define("a b", "c", "", 8),
		"[a\n\nb]: c":                  define("a b", "c", "", 9),
		"[A\\]B]: c":                   define("a\\]b", "c", "", 9),
		"[\u1e9e\u00c4\u03a9]: c":      define("ss\u00e4\u03c9", "c", "", 12),
		"[&Auml;]: c":                  define("&auml;", "c", "", 11),
		"[\u00a0A\u3000]: c":           define("a", "c", "", 11),
		"[a]: \\*\\b&amp; '\\*&lt;'":   define("a", "*\\b&", "*<", 23),
		"[a]: B 'T'":                   define("a", "B", "T", 10),
		"[a]: <\\>> (\\))":             define("a", ">", ")", 14),
		"[a]: \\\n't'":                 define("a", "\\", "t", 10),
		"[a]: b\\ 't'":                 define("a", "b\\", "t", 11),
		"[a]: b \\'t'":                 none,
		"[a]: b\n\\'t'":                define("a", "b", "", 7),
		"[a]: [b]: c":                  none,
		"[a]:[b]:c":                    define("a", "[b]:c", "", 9),
		"[^_`{|}~]: a":                 define("^_`{|}~", "a", "", 12),
		"[foo]: /url 'a\nb\nc'\n":      define("foo", "/url", "a\nb\nc", 20),
		"[foo]: /url\n\"title\" ok":    define("foo", "/url", "", 12),
		"[foo]: /url \"title\" ok":     none,
		"[foo]:\n/url":                 define("foo", "/url", "", 11),
		"[foo]: <bar>(baz)":            none,
		"[FOO]: /url\\bar\\*\"baz":     define("foo", "/url\\bar*\"baz", "", 21),
		"[foo]: /url 'title' \"more\"": none,
	}
	for s, want := range cases {
		checkDefine(t, s, want)
	}
}

// TestDefineBounds: a label of so many bytes, a destination of so many brackets.
func TestDefineBounds(t *testing.T) {
	for _, n := range []int{0, 1, api.MaxLabel, api.MaxLabel + 1} {
		for indent := range 6 {
			name := many("a", n)
			want := define(name, "b", "", indent+n+5)
			if n == 0 || n > api.MaxLabel || indent > 3 {
				want = definition{}
			}
			checkDefine(t, many(" ", indent)+"["+name+"]: b", want)
		}
	}
	for n := 30; n < 36; n++ {
		dest := many("(", n) + many(")", n)
		want := define("a", dest, "", 5+2*n)
		if n > 32 {
			want = definition{}
		}
		checkDefine(t, "[a]: "+dest, want)
	}
	checkDefine(t, "["+many("\u1e9e", 333)+"]: b", define(many("s", 666), "b", "", 1004))
}

// TestDefineGaps: at most one line feed, wherever a gap may stand.
func TestDefineGaps(t *testing.T) {
	eachText([]string{" ", "\t", "\n"}, 4, func(gap string) {
		feeds, size := strings.Count(gap, "\n"), len(gap)

		ahead := define("a", "b", "", 5+size)
		if feeds > 1 {
			ahead = definition{}
		}
		checkDefine(t, "[a]:"+gap+"b", ahead)

		behind := define("a", "b", "c", 10+size)
		switch {
		case feeds > 1:
			behind = define("a", "b", "", 7+firstLine(gap))
		case gap == "":
			behind = definition{}
		}
		checkDefine(t, "[a]:<b>"+gap+"'c'", behind)

		checkDefine(t, "[a]:b 'c'"+gap, define("a", "b", "c", 9+firstLine(gap)))
		checkDefine(t, "[a]:b"+gap, define("a", "b", "", 5+firstLine(gap)))
		if size > 0 {
			checkDefine(t, "[a]"+gap+":b", definition{})
		}
	})
}

// firstLine is how many bytes a text has up to its first line feed, and with it.
func firstLine(s string) int {
	if at := strings.IndexByte(s, '\n'); at >= 0 {
		return at + 1
	}
	return len(s)
}

// TestDefineBehind: what stands behind a definition's line changes nothing, unless it is a title.
func TestDefineBehind(t *testing.T) {
	for _, s := range []string{"[a]: b 't'\n", "[a]: <> (t) \n", "  [a]:\nb\n't\nu'\t\n"} {
		want := definitionOf(s)
		if want.size != len(s) {
			t.Fatalf("Define(%q) has %d bytes", s, want.size)
		}
		eachByte(func(c string) {
			checkDefine(t, s+c, want)
			checkDefine(t, s+c+"'v'", want)
			checkDefine(t, s+c+s, want)
		})
	}
	want := define("a", "b", "", 7)
	eachByte(func(c string) {
		checkDefine(t, "[a]: b\n"+c, want)
		checkDefine(t, "[a]: b\n"+c+"\n", want)
		checkDefine(t, "[a]: b\n"+c+"[c]: d\n", want)
		checkDefine(t, "[a]: b\n't' c"+c, want)
	})
}

// definitionByPattern is another reading of F4: with a title first, else without one.
type definitionByPattern struct {
	label            labelByPattern
	dest             destByHand
	title            titleByPattern
	titled, untitled *regexp.Regexp
}

func newDefinitionByPattern() definitionByPattern {
	const (
		head = `(?s)^ {0,3}(\[(?:[^\[\]\\]|\\.)+\]):[ \t]*\n?[ \t]*(<(?:[^<>\n\\]|\\[^\n])*>|[^<\x00-\x20\x7f][^\x00-\x20\x7f]*)`
		name = `(?:[ \t]+\n?[ \t]*|\n[ \t]*)("(?:[^"\\]|\\.)*"|'(?:[^'\\]|\\.)*'|\((?:[^()\\]|\\.)*\))`
		stop = `[ \t]*(?:\n|$)`
	)
	return definitionByPattern{
		label:    newLabelByPattern(),
		title:    newTitleByPattern(),
		dest:     newDestByHand(),
		titled:   regexp.MustCompile(head + name + stop),
		untitled: regexp.MustCompile(head + stop),
	}
}

func (p definitionByPattern) definition(s string) definition {
	if m := p.titled.FindStringSubmatch(s); m != nil && p.title.told(m[3]).size > 0 {
		return p.made(m, p.title.told(m[3]).text)
	}
	if m := p.untitled.FindStringSubmatch(s); m != nil {
		return p.made(m, "")
	}
	return definition{}
}

func (p definitionByPattern) made(m []string, title string) definition {
	label, dest := p.label.told(m[1]), p.dest.told(m[2])
	if label.size != len(m[1]) || dest.size != len(m[2]) {
		return definition{}
	}
	return define(runes.Fold(label.text), dest.text, title, len(m[0]))
}

func TestDefineByPattern(t *testing.T) {
	p := newDefinitionByPattern()
	titled, untitled := 0, 0
	check := func(s string) {
		want := p.definition(s)
		if want.def.Title != "" {
			titled++
		} else if want.size > 0 {
			untitled++
		}
		checkDefine(t, s, want)
	}
	eachText([]string{"[a]", "[", "]:", ":", " ", "\n", "b", "'c'"}, 6, check)
	eachText([]string{"[a]:", " ", "\n", "b", "'", "\\", "\t"}, 6, check)
	eachText([]string{"(", ")", " ", "\n", "<", ">", "\"", "\\"}, 6, func(s string) {
		check("[a]:" + s)
		check("[a]: b" + s)
	})
	eachText([]string{" ", "\n", "'t'", "(", ")", "\"t", "\"", "\\"}, 6, func(s string) { check("[a]: <b>" + s) })
	eachFrame([]string{
		"@[a]: b", "[@]: b", "[a@]: b", "[a]@ b", "[a]:@b", "[a]: @", "[a]: b@", "[a]: b@c", "[a]: b@'c'", "[a]: b @c'", "[a]: b '@'", "[a]: b 'c'@", "[a]: b\n@'c'", "[a]: b\n'c@'", "[a]: b\n'c'@", "[a]: <@>", "[a]: <b>@", "[a]: <b>@'c'", "[a]: b (@)", "[a]: b\n(@)", "[\\@]: b", "[a]: \\@", "[a]: b\n'\\@'", "[a]: b '\n@\n'",
	}, check)
	if titled < 1000 || untitled < 1000 {
		t.Errorf("found only %d and %d", titled, untitled)
	}
}

// TestDefineTellsWhatTheOthersTell: a definition's parts are those of Label, Dest and Title.
func TestDefineTellsWhatTheOthersTell(t *testing.T) {
	for _, name := range labels() {
		for _, place := range dests() {
			label, _ := Label(name)
			dest, _ := Dest(place)
			s := name + ": " + place + "\n"
			checkDefine(t, s, define(runes.Fold(label), dest, "", len(s)))
			for _, words := range titles() {
				title, _ := Title(words)
				checkDefine(t, s+words, define(runes.Fold(label), dest, title, len(s+words)))
				checkDefine(t, s+words+" c", define(runes.Fold(label), dest, "", len(s)))
				checkDefine(t, s+words[:len(words)-1], define(runes.Fold(label), dest, "", len(s)))
			}
		}
	}
}
