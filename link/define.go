package link

import (
	"strings"

	"scriptorium/api"
	"scriptorium/runes"
)

// gaps are the bytes of which a gap is made, beside its line feed.
const gaps = " \t"

// maxIndent is how many blanks may stand ahead of a definition.
const maxIndent = 3

// Define is the definition with which a text begins (F4).
func Define(s string) (api.Def, int) {
	label, at := defined(s)
	if at == 0 {
		return api.Def{}, 0
	}
	at += gap(s[at:])
	dest, size := Dest(s[at:])
	if size == 0 {
		return api.Def{}, 0
	}
	at += size
	title, size, ends := tail(s[at:])
	if !ends {
		return api.Def{}, 0
	}
	return api.Def{Label: runes.Fold(label), Dest: dest, Title: title}, at + size
}

// defined is the label of a definition, and how many bytes there are up to the one behind its colon.
func defined(s string) (string, int) {
	indent := row(s, " ")
	if indent > maxIndent {
		return "", 0
	}
	label, size := Label(s[indent:])
	if size == 0 || !has(s, indent+size, ':') {
		return "", 0
	}
	return label, indent + size + 1
}

// tail is what stands behind where a definition leads: its title, how many bytes it has, and whether it ends as a definition must.
func tail(s string) (string, int, bool) {
	ahead := gap(s)
	title, size := Title(s[ahead:])
	if ahead > 0 && size > 0 {
		if rest, ends := lineEnd(s[ahead+size:]); ends {
			return title, ahead + size + rest, true
		}
	}
	rest, ends := lineEnd(s)
	return "", rest, ends
}

// lineEnd is how many bytes there are to the next line, and whether nothing but blanks and tabs stands ahead of it.
func lineEnd(s string) (int, bool) {
	size := row(s, gaps)
	if size == len(s) {
		return size, true
	}
	if s[size] == '\n' {
		return size + 1, true
	}
	return 0, false
}

// gap is how many bytes the gap has with which a text begins.
func gap(s string) int {
	size := row(s, gaps)
	if has(s, size, '\n') {
		size++
		size += row(s[size:], gaps)
	}
	return size
}

// row is how many bytes of a kind a text begins with.
func row(s, kind string) int {
	return len(s) - len(strings.TrimLeft(s, kind))
}
