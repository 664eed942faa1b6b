package html

// page is HTML, written piece by piece.
type page struct {
	html []byte
}

func (p *page) told() string { return string(p.html) }

func (p *page) write(s string) { p.html = append(p.html, s...) }

// beginLine is what the chapter writes as ~.
func (p *page) beginLine() {
	if n := len(p.html); n > 0 && p.html[n-1] != '\n' {
		p.write("\n")
	}
}

// between writes two tags, and between them what inner writes.
func (p *page) between(open, end string, inner func()) {
	p.write(open)
	inner()
	p.write(end)
}

// line has the two tags, and what stands between them, on lines of their own.
func (p *page) line(open, end string, inner func()) {
	p.beginLine()
	p.between(open, end, inner)
	p.beginLine()
}

func (p *page) lineOf(s string) {
	p.beginLine()
	p.write(s)
	p.beginLine()
}

// container has each tag on a line of its own, and what stands between them on others.
func (p *page) container(open, end string, inner func()) {
	p.lineOf(open)
	inner()
	p.lineOf(end)
}
