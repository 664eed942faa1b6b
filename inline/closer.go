package inline

import (
	"strings"

	"scriptorium/api"
	"scriptorium/link"
	"scriptorium/runes"
)

// opener is a part with which a link or an image may begin, as long as no closer was held against it. The part is text, if none does.
type opener struct {
	kind  int
	part  int // which of the parts it is
	start int // the place of its bracket in the text
}

func (r *reader) readOpener() {
	mark, kind := "[", api.Link
	if r.text[r.at] == '!' {
		mark, kind = "![", api.Image
	}
	if !strings.HasPrefix(r.text[r.at:], mark) {
		r.at++
		return
	}
	r.addText(mark, len(mark))
	r.openers = append(r.openers, opener{kind: kind, part: len(r.parts) - 1, start: r.at - 1})
}

// readCloser takes the last opener away, whatever becomes of it (III).
func (r *reader) readCloser() {
	last := len(r.openers) - 1
	if last < 0 {
		r.at++
		return
	}
	o := r.openers[last]
	r.openers = r.openers[:last]
	active := o.kind == api.Image || last >= r.inactive
	r.inactive = min(r.inactive, last)
	if !active {
		r.at++
		return
	}
	target, size := r.target(o)
	if size == 0 {
		r.at++
		return
	}
	r.endText()
	kids := emphasized(r.parts[o.part+1:])
	r.parts = r.parts[:o.part]
	r.add(part{Inline: api.Inline{Kind: o.kind, Dest: target.Dest, Title: target.Title, Kids: kids}}, size)
	if o.kind == api.Link {
		r.inactive = last
	}
}

// target is where leads what begins with an opener and ends with the closer at the place, and how many bytes from the closer on tell it; 0, if nothing does.
func (r *reader) target(o opener) (api.Def, int) {
	behind := r.text[r.at+1:]
	if def, size := inPlace(behind); size > 0 {
		return def, 1 + size
	}
	if label, size := link.Label(behind); size > 0 {
		return r.defined(label, 1+size)
	}
	// With an opener in it this would be no label, so that there is no need to look for one.
	own := r.text[o.start : r.at+1]
	label, size := link.Label(own)
	if size != len(own) {
		return api.Def{}, 0
	}
	if strings.HasPrefix(behind, "[]") {
		return r.defined(label, len("][]"))
	}
	return r.defined(label, len("]"))
}

// defined is a label's definition, and the bytes that tell it; 0, if there is none.
func (r *reader) defined(label string, size int) (api.Def, int) {
	def, ok := r.defs[runes.Fold(label)]
	if !ok {
		return api.Def{}, 0
	}
	return def, size
}

// inPlace is where a link leads, and its title, in round brackets at the beginning of a text, and how many bytes these have; 0, if there are none.
func inPlace(s string) (api.Def, int) {
	if !strings.HasPrefix(s, "(") {
		return api.Def{}, 0
	}
	at := 1 + gap(s[1:])
	dest, size := link.Dest(s[at:])
	title := ""
	if size > 0 {
		at += size
		title, size = gapAndTitle(s[at:])
		at += size
	}
	at += gap(s[at:])
	if !strings.HasPrefix(s[at:], ")") {
		return api.Def{}, 0
	}
	return api.Def{Dest: dest, Title: title}, at + 1
}

// gapAndTitle is a title with a gap ahead of it, and how many bytes both have; 0, if one of them is missing.
func gapAndTitle(s string) (string, int) {
	ahead := gap(s)
	title, size := link.Title(s[ahead:])
	if ahead == 0 || size == 0 {
		return "", 0
	}
	return title, ahead + size
}

// gap is how many bytes the gap has with which a text begins.
func gap(s string) int {
	size := row(s, " \t")
	if strings.HasPrefix(s[size:], "\n") {
		size++
		size += row(s[size:], " \t")
	}
	return size
}
