package inline

import (
	"unicode/utf8"

	"scriptorium/api"
	"scriptorium/runes"
)

// delimiters are a run of one byte: how many there were in the text, and whether they open and close. How many are left the part's text tells.
type delimiters struct {
	sign          byte
	number        int
	opens, closes bool
}

func (r *reader) readDelimiters() {
	size := row(r.text[r.at:], r.text[r.at:r.at+1])
	run := delimitersOf(r.text, r.at, r.at+size)
	text := r.text[r.at : r.at+size]
	r.add(part{Inline: api.Inline{Kind: api.Text, Text: text}, delimiters: run}, size)
}

// delimitersOf is the run that stands in a text from start to stop.
func delimitersOf(s string, start, stop int) delimiters {
	ahead, behind := lastOf(s[:start]), firstOf(s[stop:])
	left, right := flanks(ahead, behind), flanks(behind, ahead)
	d := delimiters{sign: s[start], number: stop - start, opens: left, closes: right}
	if d.sign == '_' {
		d.opens = left && (!right || runes.Punct(ahead))
		d.closes = right && (!left || runes.Punct(behind))
	}
	return d
}

// lastOf is a text's last character; of none a line feed.
func lastOf(s string) rune {
	if s == "" {
		return '\n'
	}
	c, _ := utf8.DecodeLastRuneInString(s)
	return c
}

// firstOf is a text's first character; of none a line feed.
func firstOf(s string) rune {
	if s == "" {
		return '\n'
	}
	c, _ := utf8.DecodeRuneInString(s)
	return c
}

// flanks tells whether a run belongs to the character near it rather than to the one on its far side: LEFT with the one behind it as near, RIGHT with the one ahead.
func flanks(far, near rune) bool {
	if runes.Space(near) {
		return false
	}
	return !runes.Punct(near) || runes.Space(far) || runes.Punct(far)
}

// sentence is parts among which emphasis was looked for, and the places of those that may open more.
type sentence struct {
	parts   []part
	openers []int
}

// emphasized is a row of parts as inlines, with emphasis.
func emphasized(parts []part) []api.Inline {
	var s sentence
	for _, p := range parts {
		s.take(p)
	}
	return told(s.parts)
}

// take adds a part; delimiters close first what they can, and what is left of them stands behind that.
func (s *sentence) take(p part) {
	for p.closes && p.Text != "" {
		i := s.openerFor(p.delimiters)
		if i < 0 {
			break
		}
		p.Text = p.Text[s.close(i, len(p.Text)):]
	}
	if p.opens && p.Text != "" {
		s.openers = append(s.openers, len(s.parts))
	}
	s.parts = append(s.parts, p)
}

// openerFor is which of the openers is the nearest one that a closer may close; -1, if there is none.
func (s *sentence) openerFor(closer delimiters) int {
	for i := len(s.openers) - 1; i >= 0; i-- {
		if fit(s.parts[s.openers[i]].delimiters, closer) {
			return i
		}
	}
	return -1
}

// fit asks one number alone whether both are multiples of 3: if they are so together, the other one is as this.
func fit(opener, closer delimiters) bool {
	if opener.sign != closer.sign {
		return false
	}
	if !opener.closes && !closer.opens {
		return true
	}
	return (opener.number+closer.number)%3 != 0 || closer.number%3 == 0
}

// close makes one part of all behind an opener, and tells how many delimiters it took on either side; left are those of the closer.
func (s *sentence) close(i, left int) int {
	at := s.openers[i]
	opener := s.parts[at]
	kind, used := api.Emph, 1
	if len(opener.Text) >= 2 && left >= 2 {
		kind, used = api.Strong, 2
	}
	whole := part{Inline: api.Inline{Kind: kind, Kids: told(s.parts[at+1:])}}
	opener.Text = opener.Text[used:]
	s.parts, s.openers = s.parts[:at], s.openers[:i]
	if opener.Text != "" {
		s.openers = append(s.openers, at)
		s.parts = append(s.parts, opener)
	}
	s.parts = append(s.parts, whole)
	return used
}
