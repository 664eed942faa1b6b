package snap

import "scriptorium/api"

// begin is the byte with which a store's bytes begin.
const begin = 83

// appendNumber, as all here, writes behind b in its own room: only what the package made itself is handed to it.
func appendNumber(b []byte, n uint64) []byte {
	for n > 127 {
		b = append(b, byte(n%128)+128)
		n /= 128
	}
	return append(b, byte(n))
}

func appendText(b []byte, s string) []byte {
	return append(appendNumber(b, uint64(len(s))), s...)
}

// appendInt is appendNumber of what is known not to be below 0.
func appendInt(b []byte, n int) []byte {
	return appendNumber(b, uint64(n))
}

// appendStore writes a store that is right.
func appendStore(b []byte, s api.Store) []byte {
	b = appendInt(append(b, begin), len(s.Tenants))
	for _, t := range s.Tenants {
		b = appendTenant(b, t)
	}
	b = appendInt(b, len(s.Grants))
	for _, g := range s.Grants {
		b = appendText(b, g.Tenant)
		b = appendText(b, g.Who)
		b = appendInt(b, g.Right)
	}
	return b
}

func appendTenant(b []byte, t api.Tenant) []byte {
	b = appendInt(appendText(b, t.Name), len(t.Docs))
	for _, d := range t.Docs {
		b = appendDoc(b, d)
	}
	return b
}

// appendDoc leaves out the versions' numbers, as Last tells them all.
func appendDoc(b []byte, d api.Doc) []byte {
	b = appendText(b, d.Name)
	b = appendInt(b, d.Last)
	b = appendInt(b, len(d.Versions))
	for _, v := range d.Versions {
		b = appendText(b, v.Text)
	}
	return b
}
