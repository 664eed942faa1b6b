package html

import (
	"scriptorium/api"
	"scriptorium/escape"
	"scriptorium/inline"
)

// text writes a text's parts, as the document's definitions make them.
func (w *writer) text(s string) {
	w.parts(inline.Parse(s, w.defs))
}

func (w *writer) parts(l []api.Inline) {
	for _, x := range l {
		w.part(x)
	}
}

func (w *writer) part(x api.Inline) {
	kids := func() { w.parts(x.Kids) }
	switch x.Kind {
	case api.Text:
		w.write(escape.HTML(x.Text))
	case api.Soft:
		w.write("\n")
	case api.Hard:
		w.write("<br />\n")
	case api.Span:
		w.between("<code>", "</code>", func() { w.write(escape.HTML(x.Text)) })
	case api.Emph:
		w.between("<em>", "</em>", kids)
	case api.Strong:
		w.between("<strong>", "</strong>", kids)
	case api.Link:
		w.between(`<a href="`+escape.URL(x.Dest)+`"`+title(x)+`>`, "</a>", kids)
	case api.Image:
		w.between(`<img src="`+escape.URL(x.Dest)+`" alt="`, `"`+title(x)+` />`, func() { w.alt(x.Kids) })
	case api.Raw:
		w.write(x.Text)
	}
}

// title is what a tag says of a Title; nothing, if there is none.
func title(x api.Inline) string {
	if x.Title == "" {
		return ""
	}
	return ` title="` + escape.HTML(x.Title) + `"`
}

// alt writes what an image's text says without tags, as these may not stand in one.
func (w *writer) alt(l []api.Inline) {
	for _, x := range l {
		switch x.Kind {
		case api.Text, api.Span:
			w.write(escape.HTML(x.Text))
		case api.Soft, api.Hard:
			w.write("\n")
		case api.Emph, api.Strong, api.Link, api.Image:
			w.alt(x.Kids)
		}
	}
}
