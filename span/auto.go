package span

import "strings"

// The bytes that a scheme and a part of an address may have.
const (
	minScheme = 2
	maxScheme = 32
	maxPart   = 63
)

// mailMarks are the bytes beside letters and digits that may stand ahead of an address's '@'.
const mailMarks = ".!#$%&'*+/=?^_{|}~-`"

// Auto is the link with which a text begins (D4).
func Auto(s string) (string, string, int) {
	if !has(s, 0, '<') {
		return "", "", 0
	}
	// Neither kind of text has a '>', so that the first one is the link's end.
	stop := strings.IndexByte(s, '>')
	if stop < 0 {
		return "", "", 0
	}
	text := s[1:stop]
	switch {
	case place(text):
		return text, text, stop + 1
	case mail(text):
		return "mailto:" + text, text, stop + 1
	}
	return "", "", 0
}

// place tells whether a text is a scheme, ':', and what may follow it.
func place(text string) bool {
	colon := strings.IndexByte(text, ':')
	if colon < minScheme || colon > maxScheme || !letter(text[0]) {
		return false
	}
	return all(text[:colon], schemeByte) && all(text[colon+1:], placeByte)
}

func schemeByte(c byte) bool {
	return letterOrDigit(c) || c == '+' || c == '.' || c == '-'
}

func placeByte(c byte) bool {
	return c > 32 && c != 127 && c != '<' && c != '>'
}

// mail tells whether a text is somebody's address.
func mail(text string) bool {
	at := strings.IndexByte(text, '@')
	if at < 1 || !all(text[:at], mailByte) {
		return false
	}
	for _, p := range strings.Split(text[at+1:], ".") {
		if !part(p) {
			return false
		}
	}
	return true
}

func mailByte(c byte) bool {
	return letterOrDigit(c) || strings.IndexByte(mailMarks, c) >= 0
}

func part(s string) bool {
	if len(s) < 1 || len(s) > maxPart || s[0] == '-' || s[len(s)-1] == '-' {
		return false
	}
	return all(s, func(c byte) bool { return letterOrDigit(c) || c == '-' })
}

func all(s string, kind func(byte) bool) bool {
	return row(s, 0, kind) == len(s)
}
