package block

import (
	"strings"

	"scriptorium/api"
	"scriptorium/link"
)

// definitions are those that were taken off, the first of each label.
type definitions struct {
	list  []api.Def
	known map[string]int // how often each label was defined
}

// takeOff takes definitions off a Para's front. It has no rows any more, if nothing is left.
func (d *definitions) takeOff(p *para) {
	text := strings.Join(p.rows, "\n")
	for {
		def, size := link.Define(text)
		if size == 0 {
			break
		}
		d.add(def)
		text = text[size:]
	}
	p.rows = nil
	if text != "" {
		p.rows = []string{text}
	}
}

func (d *definitions) add(def api.Def) {
	if d.known == nil {
		d.known = map[string]int{}
	}
	if d.known[def.Label] == 0 {
		d.list = append(d.list, def)
	}
	d.known[def.Label]++
}
