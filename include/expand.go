package include

import (
	"slices"

	"scriptorium/api"
	"scriptorium/runes"
)

// expansion is a document that is being put together: what there is to read, and what was made of it so far.
type expansion struct {
	pages []api.Page
	may   []string
	out   []byte
	met   []api.Ref
	takes int
}

// Expand is a document with those that it includes (J2).
func Expand(pages []api.Page, may []string, at api.Ref) (string, []api.Ref, api.Errno) {
	x := expansion{pages: pages, may: may}
	if e := x.take(at, nil); e != api.OK {
		return "", nil, e
	}
	return string(x.out), x.met, api.OK
}

// take takes a Ref in, behind a chain of others.
func (x *expansion) take(r api.Ref, chain []api.Ref) api.Errno {
	page, e := x.admit(r, chain)
	if e != api.OK {
		return e
	}
	x.takes++
	if len(chain) > 0 {
		x.meet(page.Ref)
	}
	chain = append(chain, page.Ref)
	for _, line := range runes.Lines(runes.Clean([]byte(page.Text))) {
		if e := x.line(line, chain); e != api.OK {
			return e
		}
	}
	return api.OK
}

// admit is the page of a Ref that may be taken in. Who may not read a tenant is told so ahead of anything that its pages say.
func (x *expansion) admit(r api.Ref, chain []api.Ref) (api.Page, api.Errno) {
	if !slices.Contains(x.may, r.Tenant) {
		return api.Page{}, api.ErrDeny
	}
	page, ok := x.find(r)
	switch {
	case !ok:
		return api.Page{}, api.ErrNone
	case slices.Contains(chain, page.Ref):
		return api.Page{}, api.ErrCycle
	case len(chain) > api.MaxDepth:
		return api.Page{}, api.ErrDeep
	case x.takes >= api.MaxTakes:
		return api.Page{}, api.ErrSize
	}
	return page, api.OK
}

// find is the first page of a Ref.
func (x *expansion) find(r api.Ref) (api.Page, bool) {
	if r.Version == 0 {
		r = x.latest(r)
	}
	for _, p := range x.pages {
		if p.Ref == r {
			return p, true
		}
	}
	return api.Page{}, false
}

// latest is a document's Ref with the greatest version of its pages. One without pages stays as it is, so that no page is found of it.
func (x *expansion) latest(r api.Ref) api.Ref {
	found := false
	for _, p := range x.pages {
		same := p.Ref.Tenant == r.Tenant && p.Ref.Doc == r.Doc
		if same && (!found || p.Ref.Version > r.Version) {
			r, found = p.Ref, true
		}
	}
	return r
}

func (x *expansion) meet(r api.Ref) {
	if !slices.Contains(x.met, r) {
		x.met = append(x.met, r)
	}
}

// line puts a line behind what there is, or what it includes.
func (x *expansion) line(s string, chain []api.Ref) api.Errno {
	if r, ok := Scan(s); ok {
		return x.take(r, chain)
	}
	// Asked ahead of adding the line, so that a long one is not copied in vain.
	if len(x.out)+len(s)+1 > api.MaxOut {
		return api.ErrSize
	}
	x.out = append(append(x.out, s...), '\n')
	return api.OK
}
