package snap

import (
	"scriptorium/api"
	"scriptorium/docs"
	"scriptorium/reader"
)

const (
	// maxLast is the greatest number that a version may have.
	maxLast = 999999
	// maxWho is how many bytes of a Who are read, be it somebody or not.
	maxWho = 40
)

// readStore gives up where b is no store's Encode.
func readStore(b []byte) api.Store {
	r := reader.New(b)
	r.Byte(begin)
	var s api.Store
	for range r.Number(api.MaxTenants) {
		s.Tenants = append(s.Tenants, readTenant(r))
	}
	for range r.Number(api.MaxGrants) {
		s.Grants = append(s.Grants, readGrant(r))
	}
	r.End()
	if !docs.Right(s) {
		reader.GiveUp(0)
	}
	return s
}

func readTenant(r *reader.Reader) api.Tenant {
	t := api.Tenant{Name: r.Text(api.MaxName)}
	for range r.Number(api.MaxDocs) {
		t.Docs = append(t.Docs, readDoc(r))
	}
	return t
}

// readDoc counts the versions' numbers back from Last; where that leads below 1, the store is not right.
func readDoc(r *reader.Reader) api.Doc {
	d := api.Doc{Name: r.Text(api.MaxName)}
	d.Last = r.Number(maxLast)
	kept := r.Number(api.MaxVersions)
	for i := range kept {
		v := api.Version{Number: d.Last - (kept - 1 - i), Text: r.Text(api.MaxText)}
		d.Versions = append(d.Versions, v)
	}
	return d
}

func readGrant(r *reader.Reader) api.Grant {
	g := api.Grant{Tenant: r.Text(api.MaxName)}
	g.Who = r.Text(maxWho)
	g.Right = r.Number(api.Own)
	return g
}
