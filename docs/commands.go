package docs

import (
	"slices"
	"strconv"
	"strings"

	"scriptorium/acl"
	"scriptorium/api"
	"scriptorium/html"
	"scriptorium/include"
)

const (
	// anyVersion is the Version of who puts a text whatever the last one is.
	anyVersion = -1
	// lastVersion is the Version of who asks for the last one.
	lastVersion = 0
	// root is the own name of who may make their tenant.
	root = "root"
)

// asks tells whether a command is one that a store may be asked.
func asks(c api.Command) bool {
	_, _, somebody := acl.Who(c.Who)
	if !somebody || !include.Name(c.Tenant) {
		return false
	}
	switch c.Op {
	case api.OpMake, api.OpGrant, api.OpList:
		return true
	case api.OpPut, api.OpDelete, api.OpGet, api.OpHistory, api.OpRender:
		return include.Name(c.Doc)
	}
	return false
}

// do changes the store only where it answers no error.
func do(s *api.Store, c api.Command) api.Answer {
	at, there := tenantAt(s.Tenants, c.Tenant)
	if c.Op == api.OpMake {
		return makeTenant(s, c, at, there)
	}
	// In a tenant that is not there nobody may anything, not even its own people.
	if !there || acl.May(s.Grants, c.Tenant, c.Who) < needed(c.Op) {
		return refused(api.ErrDeny)
	}
	t := &s.Tenants[at]
	switch c.Op {
	case api.OpGrant:
		return grant(s, c)
	case api.OpPut:
		return put(t, c)
	case api.OpDelete:
		return remove(t, c)
	case api.OpGet:
		return get(*t, c)
	case api.OpList:
		return list(*t)
	case api.OpHistory:
		return history(*t, c)
	}
	return render(*s, *t, c)
}

// needed is the right in a tenant without which a command is denied.
func needed(op int) int {
	switch op {
	case api.OpGrant:
		return api.Own
	case api.OpPut, api.OpDelete:
		return api.Write
	}
	return api.Read
}

// makeTenant asks for no right of the store's, as in a tenant that is not there nobody has one.
func makeTenant(s *api.Store, c api.Command, at int, there bool) api.Answer {
	switch {
	case c.Who != c.Tenant+"/"+root:
		return refused(api.ErrDeny)
	case there:
		return refused(api.ErrHave)
	case len(s.Tenants) == api.MaxTenants:
		return refused(api.ErrMany)
	}
	s.Tenants = slices.Insert(s.Tenants, at, api.Tenant{Name: c.Tenant})
	return api.Answer{}
}

func grant(s *api.Store, c api.Command) api.Answer {
	grants, err := acl.Set(s.Grants, api.Grant{Tenant: c.Tenant, Who: c.Target, Right: c.Right})
	if err != api.OK {
		return refused(err)
	}
	s.Grants = grants
	return api.Answer{}
}

func put(t *api.Tenant, c api.Command) api.Answer {
	at, there := docAt(t.Docs, c.Doc)
	doc := api.Doc{Name: c.Doc}
	if there {
		doc = t.Docs[at]
	}
	switch {
	case len(c.Text) > api.MaxText:
		return refused(api.ErrLong)
	case c.Version != anyVersion && c.Version != doc.Last:
		return refused(api.ErrCas)
	case !there && len(t.Docs) == api.MaxDocs:
		return refused(api.ErrQuota)
	case doc.Last == maxNumber:
		return refused(api.ErrMany)
	}
	doc = withText(doc, c.Text)
	docs := withDoc(t.Docs, doc, at, there)
	// Asked of what would be there, as the oldest text may have made room.
	if size(docs) > api.MaxBytes {
		return refused(api.ErrQuota)
	}
	t.Docs = docs
	return api.Answer{Version: doc.Last}
}

// withText is a document with one version more, of which the oldest may be gone.
func withText(d api.Doc, text string) api.Doc {
	d.Last++
	kept := d.Versions
	if len(kept) == api.MaxVersions {
		kept = kept[1:]
	}
	d.Versions = append(append([]api.Version(nil), kept...), api.Version{Number: d.Last, Text: text})
	return d
}

// withDoc are documents with one at its place, be it one of them or a new one; those handed in stay.
func withDoc(docs []api.Doc, d api.Doc, at int, there bool) []api.Doc {
	with := append(append([]api.Doc(nil), docs[:at]...), d)
	if there {
		at++
	}
	return append(with, docs[at:]...)
}

func remove(t *api.Tenant, c api.Command) api.Answer {
	at, there := docAt(t.Docs, c.Doc)
	if !there {
		return refused(api.ErrNone)
	}
	t.Docs = slices.Delete(t.Docs, at, at+1)
	return api.Answer{}
}

func get(t api.Tenant, c api.Command) api.Answer {
	v, there := version(t, c)
	if !there {
		return refused(api.ErrNone)
	}
	return api.Answer{Version: v.Number, Text: v.Text}
}

func list(t api.Tenant) api.Answer {
	var names []string
	for _, d := range t.Docs {
		names = append(names, d.Name)
	}
	return api.Answer{List: names}
}

func history(t api.Tenant, c api.Command) api.Answer {
	at, there := docAt(t.Docs, c.Doc)
	if !there {
		return refused(api.ErrNone)
	}
	var numbers []string
	for _, v := range t.Docs[at].Versions {
		numbers = append(numbers, strconv.Itoa(v.Number))
	}
	return api.Answer{Version: t.Docs[at].Last, List: numbers}
}

func render(s api.Store, t api.Tenant, c api.Command) api.Answer {
	v, there := version(t, c)
	if !there {
		return refused(api.ErrNone)
	}
	ref := api.Ref{Tenant: c.Tenant, Doc: c.Doc, Version: v.Number}
	text, _, err := include.Expand(Pages(s), acl.Tenants(s.Grants, tenantNames(s), c.Who), ref)
	if err != api.OK {
		return refused(err)
	}
	return api.Answer{Version: v.Number, Text: html.Render([]byte(text))}
}

// version is the one that a command names, if it is kept.
func version(t api.Tenant, c api.Command) (api.Version, bool) {
	at, there := docAt(t.Docs, c.Doc)
	if !there {
		return api.Version{}, false
	}
	for _, v := range t.Docs[at].Versions {
		if v.Number == c.Version || c.Version == lastVersion && v.Number == t.Docs[at].Last {
			return v, true
		}
	}
	return api.Version{}, false
}

func tenantNames(s api.Store) []string {
	var names []string
	for _, t := range s.Tenants {
		names = append(names, t.Name)
	}
	return names
}

// tenantAt is the place of a tenant among those whose names rise, or where it would stand, and whether it is there.
func tenantAt(tenants []api.Tenant, name string) (int, bool) {
	return slices.BinarySearchFunc(tenants, name, func(t api.Tenant, name string) int {
		return strings.Compare(t.Name, name)
	})
}

// docAt is as tenantAt, of documents.
func docAt(docs []api.Doc, name string) (int, bool) {
	return slices.BinarySearchFunc(docs, name, func(d api.Doc, name string) int {
		return strings.Compare(d.Name, name)
	})
}

// refused is an error, and nothing beside it.
func refused(err api.Errno) api.Answer {
	return api.Answer{Err: err}
}
