package block

import "scriptorium/api"

// part is a block that is open.
type part interface {
	// told is the block that it is when it is closed, and false, if it is gone.
	told() (api.Block, bool)
	lines() extent
}

// container is a part in which others stand.
type container interface {
	part
	// goesOn tells whether it goes on, and passes its mark then; filled says that something is open in it.
	goesOn(l line, filled bool) bool
	// hold takes in what was closed in it.
	hold(p part)
}

// lined is a part to which more lines may belong.
type lined interface {
	part
	// takes tells what becomes of a line when all containers went on, and whether the part stays open.
	takes(l line) (fate, bool)
}

// extent is the first and the last line of those that belong to a part.
type extent struct {
	first, last int
}

func (e *extent) lines() extent { return *e }

// beginExtent is that of what begins on a line.
func beginExtent(l line) extent { return extent{l.number, l.number} }

func (r *reader) innermost() part { return r.open[len(r.open)-1] }

// hasParagraph tells whether a Para is open, left or not. Once a container has begun on the line, none is: that closes it.
func (r *reader) hasParagraph() bool {
	_, ok := r.innermost().(*para)
	return ok
}

// isClose tells whether a Para is open that is not left.
func (r *reader) isClose() bool {
	return r.hasParagraph() && r.on == len(r.open)
}

// room tells whether one more Quote or Item may be open, without those that are left.
func (r *reader) room() bool {
	deep := 0
	for _, p := range r.open[:r.on] {
		switch p.(type) {
		case *quote, *item:
			deep++
		}
	}
	return deep < api.MaxNest
}

// close closes what is innermost, and hands it to the one ahead.
func (r *reader) close() {
	p := r.innermost()
	if text, ok := p.(*para); ok {
		r.defs.takeOff(text)
	}
	r.open = r.open[:len(r.open)-1]
	r.on = min(r.on, len(r.open))
	// Nothing stands in what is no container.
	r.innermost().(container).hold(p)
}

// leave closes all that is left.
func (r *reader) leave() {
	for len(r.open) > r.on {
		r.close()
	}
}

// clear closes all that is left, and an open Para.
func (r *reader) clear() {
	r.leave()
	if r.hasParagraph() {
		r.close()
	}
}

// stand opens what is no Item where it may stand: not in a List.
func (r *reader) stand(p part) {
	r.clear()
	if _, ok := r.innermost().(*list); ok {
		r.close()
	}
	r.push(p)
}

func (r *reader) push(p part) {
	r.open = append(r.open, p)
	r.on = len(r.open)
}
