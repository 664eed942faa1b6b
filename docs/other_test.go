package docs

import (
	"maps"
	"regexp"
	"slices"
	"strconv"
	"strings"

	"scriptorium/api"
	"scriptorium/html"
	"scriptorium/include"
)

// other is a store once more, otherwise held: of each document all texts that were ever put, of each tenant who may what.
type other struct {
	docs   map[string]map[string][]string
	rights map[string]map[string]int
}

var (
	otherName = regexp.MustCompile(`^[a-z][a-z0-9-]{0,15}$`)
	otherWho  = regexp.MustCompile(`^([a-z][a-z0-9-]{0,15})/([a-z][a-z0-9-]{0,15})$`)
)

func newOther() other {
	return other{docs: map[string]map[string][]string{}, rights: map[string]map[string]int{}}
}

// clone shares no map with o; the lists are added to only by put, which copies.
func (o other) clone() other {
	c := newOther()
	for name := range o.docs {
		c.docs[name], c.rights[name] = maps.Clone(o.docs[name]), maps.Clone(o.rights[name])
	}
	return c
}

// gone is how many texts of a document are kept no more.
func gone(all []string) int { return max(len(all)-8, 0) }

func (o other) store() api.Store {
	var s api.Store
	for _, name := range slices.Sorted(maps.Keys(o.docs)) {
		t := tenant(name)
		for _, d := range slices.Sorted(maps.Keys(o.docs[name])) {
			all := o.docs[name][d]
			t.Docs = append(t.Docs, doc(d, len(all), all[gone(all):]...))
		}
		s.Tenants = append(s.Tenants, t)
		for _, who := range slices.Sorted(maps.Keys(o.rights[name])) {
			s.Grants = append(s.Grants, give(name, who, o.rights[name][who]))
		}
	}
	return s
}

func (o other) may(tenant, who string) int {
	if _, there := o.docs[tenant]; !there {
		return 0
	}
	switch {
	case who == tenant+"/root":
		return 3
	case strings.HasPrefix(who, tenant+"/"):
		return 2
	}
	return o.rights[tenant][who]
}

// do is Apply once more.
func (o other) do(c api.Command) api.Answer {
	reads := c.Op == 3 || c.Op == 4 || c.Op == 5 || c.Op == 7 || c.Op == 8
	if c.Op < 1 || c.Op > 8 || !otherWho.MatchString(c.Who) || !otherName.MatchString(c.Tenant) || reads && !otherName.MatchString(c.Doc) {
		return api.Answer{Err: api.ErrArg}
	}
	if least := []int{0, 0, 3, 2, 2, 1, 1, 1, 1}[c.Op]; o.may(c.Tenant, c.Who) < least {
		return api.Answer{Err: api.ErrDeny}
	}
	all, there := o.docs[c.Tenant][c.Doc]
	switch c.Op {
	case 1:
		return api.Answer{Err: o.make(c)}
	case 2:
		return api.Answer{Err: o.grant(c)}
	case 3:
		return o.put(c, all, there)
	case 6:
		return api.Answer{List: slices.Sorted(maps.Keys(o.docs[c.Tenant]))}
	}
	if !there {
		return api.Answer{Err: api.ErrNone}
	}
	if c.Op == 4 {
		delete(o.docs[c.Tenant], c.Doc)
		return api.Answer{}
	}
	if c.Op == 7 {
		a := api.Answer{Version: len(all)}
		for n := gone(all) + 1; n <= len(all); n++ {
			a.List = append(a.List, strconv.Itoa(n))
		}
		return a
	}
	n := c.Version
	if n == 0 {
		n = len(all)
	}
	if n <= gone(all) || n > len(all) {
		return api.Answer{Err: api.ErrNone}
	}
	if c.Op == 5 {
		return api.Answer{Version: n, Text: all[n-1]}
	}
	return o.render(c, n)
}

func (o other) make(c api.Command) api.Errno {
	_, have := o.docs[c.Tenant]
	switch {
	case c.Who != c.Tenant+"/root":
		return api.ErrDeny
	case have:
		return api.ErrHave
	case len(o.docs) == 8:
		return api.ErrMany
	}
	o.docs[c.Tenant], o.rights[c.Tenant] = map[string][]string{}, map[string]int{}
	return api.OK
}

func (o other) grant(c api.Command) api.Errno {
	if !otherWho.MatchString(c.Target) || strings.HasPrefix(c.Target, c.Tenant+"/") || c.Right < 0 || c.Right > 3 {
		return api.ErrArg
	}
	if c.Right == 0 {
		delete(o.rights[c.Tenant], c.Target)
		return api.OK
	}
	sum := 0
	for _, l := range o.rights {
		sum += len(l)
	}
	if _, there := o.rights[c.Tenant][c.Target]; !there && sum == 64 {
		return api.ErrMany
	}
	o.rights[c.Tenant][c.Target] = c.Right
	return api.OK
}

func (o other) put(c api.Command, all []string, there bool) api.Answer {
	if len(c.Text) > 4096 {
		return api.Answer{Err: api.ErrLong}
	}
	if c.Version != -1 && c.Version != len(all) {
		return api.Answer{Err: api.ErrCas}
	}
	if !there && len(o.docs[c.Tenant]) == 8 {
		return api.Answer{Err: api.ErrQuota}
	}
	put := append(slices.Clone(all), c.Text)
	sum := len(strings.Join(put[gone(put):], ""))
	for name, texts := range o.docs[c.Tenant] {
		if name != c.Doc {
			sum += len(strings.Join(texts[gone(texts):], ""))
		}
	}
	if sum > 32768 {
		return api.Answer{Err: api.ErrQuota}
	}
	o.docs[c.Tenant][c.Doc] = put
	return api.Answer{Version: len(put)}
}

// render hands only those pages on that may be read.
func (o other) render(c api.Command, n int) api.Answer {
	var pages []api.Page
	var may []string
	for name, docs := range o.docs {
		if o.may(name, c.Who) == 0 {
			continue
		}
		may = append(may, name)
		for d, all := range docs {
			for i := gone(all); i < len(all); i++ {
				pages = append(pages, api.Page{Ref: api.Ref{Tenant: name, Doc: d, Version: i + 1}, Text: all[i]})
			}
		}
	}
	text, _, err := include.Expand(pages, may, api.Ref{Tenant: c.Tenant, Doc: c.Doc, Version: n})
	if err != api.OK {
		return api.Answer{Err: err}
	}
	return api.Answer{Version: n, Text: html.Render([]byte(text))}
}
