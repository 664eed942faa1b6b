package span

import "strings"

// noValue are the bytes that a value without quotes has not.
const noValue = "\t\n \"'=<>`"

// openingTag is how many bytes the opening tag has whose '<' was seen.
func openingTag(s string) int {
	at := name(s, 1)
	if at == 1 {
		return 0
	}
	for {
		next := attribute(s, at)
		if next == at {
			break
		}
		at = next
	}
	at = gap(s, at)
	if has(s, at, '/') {
		at++
	}
	return tagEnd(s, at)
}

// closingTag is how many bytes the closing tag has whose '</' was seen.
func closingTag(s string) int {
	at := name(s, 2)
	if at == 2 {
		return 0
	}
	return tagEnd(s, gap(s, at))
}

func tagEnd(s string, at int) int {
	if has(s, at, '>') {
		return at + 1
	}
	return 0
}

// name, gap, attribute, value and quoted tell where the thing that stands at a place ends: there, if there is none.
func name(s string, at int) int {
	if at == len(s) || !letter(s[at]) {
		return at
	}
	return row(s, at, func(c byte) bool { return letterOrDigit(c) || c == '-' })
}

// gap stops ahead of a second line feed, which no gap has.
func gap(s string, at int) int {
	fed := false
	for at < len(s) {
		switch {
		case s[at] == '\n' && !fed:
			fed = true
		case s[at] != ' ' && s[at] != '\t':
			return at
		}
		at++
	}
	return at
}

func attribute(s string, at int) int {
	start := gap(s, at)
	if start == at || start == len(s) || !beginsAttribute(s[start]) {
		return at
	}
	stop := row(s, start, func(c byte) bool { return letterOrDigit(c) || strings.IndexByte("_.:-", c) >= 0 })
	return value(s, stop)
}

func beginsAttribute(c byte) bool {
	return letter(c) || c == '_' || c == ':'
}

// value takes the gap ahead of '=' only with all that follows it: else that gap may be the next attribute's.
func value(s string, at int) int {
	equals := gap(s, at)
	if !has(s, equals, '=') {
		return at
	}
	start := gap(s, equals+1)
	stop := quoted(s, start)
	if stop == start {
		stop = row(s, start, func(c byte) bool { return strings.IndexByte(noValue, c) < 0 })
	}
	if stop == start {
		return at
	}
	return stop
}

func quoted(s string, at int) int {
	if !has(s, at, '\'') && !has(s, at, '"') {
		return at
	}
	inner := strings.IndexByte(s[at+1:], s[at])
	if inner < 0 {
		return at
	}
	return at + 1 + inner + 1
}
