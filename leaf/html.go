package leaf

import (
	"strings"

	"scriptorium/span"
)

// HTML is the kind of HTML that a line begins (E4).
func HTML(s string) int {
	switch {
	case !strings.HasPrefix(s, "<"):
		return 0
	case beginsText(s):
		return 1
	case strings.HasPrefix(s, "<!--"):
		return 2
	case strings.HasPrefix(s, "<?"):
		return 3
	case strings.HasPrefix(s, "<!") && len(s) > 2 && letter(s[2]):
		return 4
	case strings.HasPrefix(s, "<![CDATA["):
		return 5
	case beginsBlock(s):
		return 6
	case tagAlone(s):
		return 7
	}
	return 0
}

// Ends tells whether a line ends HTML of a kind (E4).
func Ends(kind int, s string) bool {
	switch kind {
	case 1:
		return endsText(s)
	case 2:
		return strings.Contains(s, "-->")
	case 3:
		return strings.Contains(s, "?>")
	case 4:
		return strings.Contains(s, ">")
	case 5:
		return strings.Contains(s, "]]>")
	}
	return false
}

// beginsText, beginsBlock and tagAlone tell of a text that begins with '<' whether it is of the kinds 1, 6 and 7.
func beginsText(s string) bool {
	name, rest := tagName(s[1:])
	return textName(name) && (parted(rest) || rest[0] == '>')
}

func beginsBlock(s string) bool {
	name, rest := tagName(strings.TrimPrefix(s[1:], "/"))
	return blockName(name) && (parted(rest) || rest[0] == '>' || strings.HasPrefix(rest, "/>"))
}

func tagAlone(s string) bool {
	size := span.Tag(s)
	if size == 0 || !gap(s[size:]) {
		return false
	}
	name, _ := tagName(strings.TrimPrefix(s[1:], "/"))
	return !textName(name)
}

// endsText tells whether a closing tag of the names of kind 1 stands anywhere in a text.
func endsText(s string) bool {
	for {
		_, behind, found := strings.Cut(s, "</")
		if !found {
			return false
		}
		name, rest := tagName(behind)
		if textName(name) && strings.HasPrefix(rest, ">") {
			return true
		}
		s = behind
	}
}

// tagName is the name with which a text begins, in small letters, and what follows. It has bytes of ASCII alone, so that no other letter becomes one of these.
func tagName(s string) (string, string) {
	size := row(s, func(c byte) bool { return letter(c) || digit(c) || c == '-' })
	return strings.ToLower(s[:size]), s[size:]
}

// textName tells whether what stands in a tag of that name is read as no tags.
func textName(name string) bool {
	switch name {
	case "script", "pre", "style", "textarea":
		return true
	}
	return false
}

// blockName tells whether a tag of that name is one of kind 6.
func blockName(name string) bool {
	switch name {
	case "address", "article", "aside", "blockquote", "body", "center",
		"dd", "details", "dialog", "div", "dl", "dt",
		"fieldset", "figure", "footer", "form", "frame",
		"h1", "h2", "h3", "h4", "h5", "h6", "head", "header", "hr", "html",
		"iframe", "legend", "li", "link", "main", "menu", "nav", "ol", "option",
		"p", "section", "summary",
		"table", "tbody", "td", "tfoot", "th", "thead", "title", "tr", "ul":
		return true
	}
	return false
}
