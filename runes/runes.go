// Package runes is layer 1: see shared/doc/01-runes.md.
package runes

import "unicode/utf8"

// Clean is the text of some bytes (A1).
func Clean(b []byte) string {
	out := make([]byte, 0, len(b))
	// A range tells U+FFFD for each single byte with which no character begins, so 0 alone is left to be changed.
	for _, r := range string(b) {
		if r == 0 {
			r = utf8.RuneError
		}
		out = utf8.AppendRune(out, r)
	}
	return string(out)
}

// Lines are a text's (A2).
func Lines(s string) []string {
	var lines []string
	start := 0
	for start < len(s) {
		stop := lineStop(s, start)
		lines = append(lines, s[start:stop])
		start = stop + endLength(s, stop)
	}
	return lines
}

// lineStop is where the line that begins at start stops, ahead of its end.
func lineStop(s string, start int) int {
	for i := start; i < len(s); i++ {
		if s[i] == '\n' || s[i] == '\r' {
			return i
		}
	}
	return len(s)
}

// endLength is how many bytes the line's end at a place has; none behind the text.
func endLength(s string, at int) int {
	if at >= len(s) {
		return 0
	}
	if s[at] == '\r' && at+1 < len(s) && s[at+1] == '\n' {
		return 2
	}
	return 1
}

// Space, Punct and Mark tell what a character is (A3).
func Space(r rune) bool {
	switch r {
	case 9, 10, 12, 13, 32, 0xa0, 0x1680, 0x202f, 0x205f, 0x3000:
		return true
	}
	return within(r, 0x2000, 0x200a)
}

// Punct asks Mark of ASCII alone: a greater number cut to a byte would be another character.
func Punct(r rune) bool {
	if within(r, 0, 0x7f) {
		return Mark(byte(r))
	}
	switch r {
	case 0xb4, 0xbb, 0xbf, 0xd7, 0xf7:
		return true
	}
	return within(r, 0xa1, 0xa9) || within(r, 0xab, 0xb1) || within(r, 0xb6, 0xb8) ||
		within(r, 0x2010, 0x2027) || within(r, 0x2030, 0x205e) || within(r, 0x20a0, 0x20c0) ||
		within(r, 0x2190, 0x21ff) || within(r, 0x3001, 0x3003) || within(r, 0x3008, 0x3011)
}

// Mark goes by the four ranges in which ASCII has its marks.
func Mark(c byte) bool {
	return '!' <= c && c <= '/' || ':' <= c && c <= '@' || '[' <= c && c <= '`' || '{' <= c && c <= '~'
}

func within(r, first, last rune) bool {
	return first <= r && r <= last
}

// Fold is a label as it is compared (A4).
func Fold(s string) string {
	out := make([]byte, 0, len(s))
	space := false
	for _, r := range s {
		if Space(r) {
			space = true
			continue
		}
		// A row of Space is written only ahead of a character, so that those at the ends are left out.
		if space && len(out) > 0 {
			out = append(out, ' ')
		}
		space = false
		out = appendSmall(out, r)
	}
	return string(out)
}

// appendSmall adds a character as a small letter, if it is a letter of Fold's ranges.
func appendSmall(b []byte, r rune) []byte {
	switch {
	case r == 0xdf || r == 0x1e9e:
		return append(b, 's', 's')
	case within(r, 'A', 'Z'), within(r, 0xc0, 0xde) && r != 0xd7, within(r, 0x391, 0x3a9), within(r, 0x410, 0x42f):
		r += 0x20
	case within(r, 0x400, 0x40f):
		r += 0x50
	}
	return utf8.AppendRune(b, r)
}
