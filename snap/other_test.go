package snap

import (
	"encoding/binary"
	"slices"

	"scriptorium/api"
	"scriptorium/docs"
)

// field is a part of a store's bytes: a number, or a text, and how great it may be.
type field struct {
	text   bool
	number uint64
	chars  string
	most   int
}

func (f field) bytes() []byte {
	if f.text {
		return textBytes(f.chars)
	}
	return binary.AppendUvarint(nil, f.number)
}

// fields are those of a store, right or not, behind the first byte.
func fields(s api.Store) []field {
	var l []field
	number := func(n, most int) { l = append(l, field{number: uint64(n), most: most}) }
	text := func(s string, most int) { l = append(l, field{text: true, chars: s, most: most}) }
	number(len(s.Tenants), 8)
	for _, t := range s.Tenants {
		text(t.Name, 16)
		number(len(t.Docs), 8)
		for _, d := range t.Docs {
			text(d.Name, 16)
			number(d.Last, 999999)
			number(len(d.Versions), 8)
			for _, v := range d.Versions {
				text(v.Text, 4096)
			}
		}
	}
	number(len(s.Grants), 64)
	for _, g := range s.Grants {
		text(g.Tenant, 16)
		text(g.Who, 40)
		number(g.Right, 3)
	}
	return l
}

// written are these fields' bytes, behind the first byte.
func written(l []field) []byte {
	b := []byte{83}
	for _, f := range l {
		b = append(b, f.bytes()...)
	}
	return b
}

// with is a row of fields of which one is another.
func with(l []field, i int, f field) []field {
	l = slices.Clone(l)
	l[i] = f
	return l
}

// other reads a store once more: from the first thing on that can't be read it reads nothing but noughts.
type other struct {
	rest    []byte
	at, bad int
}

// fine is the place where all could be read.
const fine = -1

// otherDecode is the store that is read, and fine; or the place of the fault.
func otherDecode(b []byte) (api.Store, int) {
	if len(b) == 0 || b[0] != 'S' {
		return api.Store{}, 0
	}
	o := &other{rest: b[1:], at: 1, bad: fine}
	var s api.Store
	s.Tenants = several(o.number(8), o.tenant)
	s.Grants = several(o.number(64), func() api.Grant {
		return api.Grant{Tenant: o.text(16), Who: o.text(40), Right: o.number(3)}
	})
	switch {
	case o.bad != fine:
		return api.Store{}, o.bad
	case len(o.rest) > 0:
		return api.Store{}, o.at
	case !docs.Right(s):
		return api.Store{}, 0
	}
	return s, fine
}

func several[T any](n int, read func() T) []T {
	var l []T
	for range n {
		l = append(l, read())
	}
	return l
}

func (o *other) tenant() api.Tenant {
	return api.Tenant{Name: o.text(16), Docs: several(o.number(8), o.doc)}
}

func (o *other) doc() api.Doc {
	d := api.Doc{Name: o.text(16), Last: o.number(999999)}
	for _, text := range several(o.number(8), func() string { return o.text(4096) }) {
		d.Versions = append(d.Versions, api.Version{Text: text})
	}
	number := d.Last
	for i := len(d.Versions) - 1; i >= 0; i-- {
		d.Versions[i].Number = number
		number--
	}
	return d
}

func (o *other) number(most uint64) int {
	n, size := otherNumber(o.rest)
	if !o.pass(size, n <= most) {
		return 0
	}
	return int(n)
}

func (o *other) text(most int) string {
	s, size := otherText(o.rest, most)
	if !o.pass(size, true) {
		return ""
	}
	return s
}

// pass goes on by what was read, if nothing was wrong up to here, and it may be.
func (o *other) pass(size int, may bool) bool {
	if o.bad != fine {
		return false
	}
	if size == 0 || !may {
		o.bad = o.at
		return false
	}
	o.rest, o.at = o.rest[size:], o.at+size
	return true
}
