package snap

import (
	"scriptorium/api"
	"scriptorium/docs"
)

const (
	// maxLast is the greatest number that a version may have.
	maxLast = 999999
	// maxWho is how many bytes of a Who are read, be it somebody or not.
	maxWho = 40
)

// unreadable is what reading gives up by: the place of what can't be read.
type unreadable struct{ at int }

// fault tells of what was recovered where reading gave up; any other panic goes on.
func fault(p any) error {
	switch gave := p.(type) {
	case unreadable:
		return &api.Fault{At: gave.at, Err: api.ErrCode}
	default:
		panic(p)
	}
}

// reader reads bytes from a place on, which no part of it leaves unless what stands there could be read.
type reader struct {
	b  []byte
	at int
}

// readStore gives up by a panic where b is no store's Encode.
func readStore(b []byte) api.Store {
	r := &reader{b: b}
	r.first()
	var s api.Store
	for range r.number(api.MaxTenants) {
		s.Tenants = append(s.Tenants, r.tenant())
	}
	for range r.number(api.MaxGrants) {
		s.Grants = append(s.Grants, r.grant())
	}
	if r.at < len(b) {
		r.giveUp()
	}
	if !docs.Right(s) {
		panic(unreadable{at: 0})
	}
	return s
}

func (r *reader) giveUp() {
	panic(unreadable{at: r.at})
}

// first reads the byte with which all begins.
func (r *reader) first() {
	if len(r.b) == 0 || r.b[0] != begin {
		r.giveUp()
	}
	r.at++
}

// number reads one of at most most.
func (r *reader) number(most int) int {
	n, size := GetNumber(r.b[r.at:])
	if size == 0 || n > uint64(most) {
		r.giveUp()
	}
	r.at += size
	return int(n)
}

// text reads one of at most most bytes.
func (r *reader) text(most int) string {
	s, size := GetText(r.b[r.at:], most)
	if size == 0 {
		r.giveUp()
	}
	r.at += size
	return s
}

func (r *reader) tenant() api.Tenant {
	t := api.Tenant{Name: r.text(api.MaxName)}
	for range r.number(api.MaxDocs) {
		t.Docs = append(t.Docs, r.doc())
	}
	return t
}

// doc counts the versions' numbers back from Last; where that leads below 1, the store is not right.
func (r *reader) doc() api.Doc {
	d := api.Doc{Name: r.text(api.MaxName)}
	d.Last = r.number(maxLast)
	kept := r.number(api.MaxVersions)
	for i := range kept {
		v := api.Version{Number: d.Last - (kept - 1 - i), Text: r.text(api.MaxText)}
		d.Versions = append(d.Versions, v)
	}
	return d
}

func (r *reader) grant() api.Grant {
	g := api.Grant{Tenant: r.text(api.MaxName)}
	g.Who = r.text(maxWho)
	g.Right = r.number(api.Own)
	return g
}
