// Package clone copies states such that the copies share no memory with them.
package clone

import (
	"slices"

	"archivum/api"
)

// List returns a copy of a list, each element of which a function gives new lists in place of those that it shares.
func List[T any](l []T, renew func(x *T)) []T {
	copied := slices.Clone(l)
	for i := range copied {
		renew(&copied[i])
	}
	return copied
}

// Registry returns a copy of a registry.
func Registry(r api.Registry) api.Registry {
	r.Offices = List(r.Offices, func(o *api.Office) { o.Next = slices.Clone(o.Next) })
	r.Plans = List(r.Plans, func(p *api.Plan) { p.Classes, p.Moved = slices.Clone(p.Classes), slices.Clone(p.Moved) })
	r.Files = List(r.Files, func(f *api.File) { f.Notes = slices.Clone(f.Notes) })
	r.Rules = slices.Clone(r.Rules)
	r.Holds = slices.Clone(r.Holds)
	r.Clerks = slices.Clone(r.Clerks)
	r.Selections = List(r.Selections, func(s *api.Selection) { s.Files = slices.Clone(s.Files) })
	r.Proposals = List(r.Proposals, func(p *api.Proposal) { p.Files = slices.Clone(p.Files) })
	r.Approvals = slices.Clone(r.Approvals)
	r.Certificates = List(r.Certificates, func(c *api.Certificate) { c.Files = slices.Clone(c.Files) })
	r.Departures = slices.Clone(r.Departures)
	return r
}
