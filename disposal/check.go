package disposal

import (
	"cmp"
	"slices"

	"archivum/api"
	"archivum/code"
	"archivum/list"
	"archivum/number"
	"archivum/span"
	"archivum/verdict"
)

// Check returns the first fault of a registry with clerks, proposals, approvals and certificates.
func Check(r api.Registry) api.Errno {
	if e := verdict.Check(r); e != api.OK {
		return e
	}
	return checkOwn(r)
}

// checkOwn checks what layer 11 does not check in a registry, which is without a fault there.
func checkOwn(r api.Registry) api.Errno {
	// Each list is checked only if the ones before, in which its elements are looked up, have no fault.
	for _, check := range []func() (int, api.Errno){
		func() (int, api.Errno) { return list.Check(r.Clerks, api.MaxClerks, checkClerk) },
		func() (int, api.Errno) { return list.Check(r.Proposals, api.MaxList, checkingProposals(r)) },
		func() (int, api.Errno) { return list.Check(r.Approvals, api.MaxList, checkingApprovals(r)) },
		func() (int, api.Errno) { return list.Check(r.Certificates, api.MaxList, checkingCertificates(r)) },
	} {
		if _, e := check(); e != api.OK {
			return e
		}
	}
	return api.OK
}

// checkClerk checks the clerk that follows some others.
func checkClerk(before []api.Clerk, c api.Clerk) api.Errno {
	switch {
	case !number.IsID(c.ID) || !number.From(c.Role, api.RoleManager, api.RoleAuditor) || !span.Valid(c.In):
		return api.ErrRange
	case !code.Name(c.Name):
		return api.ErrName
	case len(before) > 0 && c.ID <= before[len(before)-1].ID:
		return api.ErrOrder
	}
	return api.OK
}

// clerkOn returns the clerk with an ID who has a role on a day.
func clerkOn(l []api.Clerk, id, day int) (api.Clerk, bool) {
	i := slices.IndexFunc(l, func(c api.Clerk) bool { return c.ID == id && span.Has(c.In, day) })
	if i < 0 {
		return api.Clerk{}, false
	}
	return l[i], true
}

// checkingProposals returns a function that checks the proposals of a registry, one after the other.
func checkingProposals(r api.Registry) func(before []api.Proposal, p api.Proposal) api.Errno {
	// until has the day for each file from which on it can be proposed.
	until := map[int]int{}
	for _, f := range r.Files {
		until[f.ID] = 0
	}
	isUnknown := func(id int) bool {
		_, ok := until[id]
		return !ok
	}
	return func(before []api.Proposal, p api.Proposal) api.Errno {
		isTaken := func(id int) bool { return until[id] > p.Day }
		switch e := checkHead(r, before, p); {
		case e != api.OK:
			return e
		case len(p.Files) == 0:
			return api.ErrEmpty
		case slices.ContainsFunc(p.Files, isUnknown):
			return api.ErrNotFound
		case !list.Increase(p.Files, cmp.Compare):
			return api.ErrOrder
		case slices.ContainsFunc(p.Files, isTaken):
			return api.ErrTwice
		}
		for _, id := range p.Files {
			until[id] = p.Withdrawn
		}
		return api.OK
	}
}

// checkHead checks everything of a proposal but its files.
func checkHead(r api.Registry, before []api.Proposal, p api.Proposal) api.Errno {
	last := len(before) - 1
	_, ok := clerkOn(r.Clerks, p.Clerk, p.Day)
	switch {
	case !number.IsID(p.ID) || !number.IsDay(p.Day) || !number.From(p.Withdrawn, p.Day, api.MaxDay) && p.Withdrawn != api.Forever:
		return api.ErrRange
	case last >= 0 && (p.ID <= before[last].ID || p.Day < before[last].Day):
		return api.ErrOrder
	case !ok:
		return api.ErrNotFound
	}
	return api.OK
}

// checkingApprovals returns a function that checks the approvals of a registry, one after the other.
func checkingApprovals(r api.Registry) func(before []api.Approval, a api.Approval) api.Errno {
	type pair struct{ proposal, clerk int }
	seen := map[pair]bool{}
	return func(before []api.Approval, a api.Approval) api.Errno {
		i, ok := search(r.Proposals, a.Proposal)
		if !ok {
			return api.ErrNotFound
		}
		if e := checkApproval(r, before, r.Proposals[i], a); e != api.OK {
			return e
		}
		if seen[pair{a.Proposal, a.Clerk}] {
			return api.ErrTwice
		}
		seen[pair{a.Proposal, a.Clerk}] = true
		return api.OK
	}
}

// checkApproval checks everything of the approval of a proposal but whether there is an earlier one.
func checkApproval(r api.Registry, before []api.Approval, p api.Proposal, a api.Approval) api.Errno {
	_, ok := clerkOn(r.Clerks, a.Clerk, a.Day)
	switch {
	case !number.From(a.Day, p.Day, api.MaxDay):
		return api.ErrRange
	case len(before) > 0 && a.Day < before[len(before)-1].Day:
		return api.ErrOrder
	case a.Day >= p.Withdrawn:
		return api.ErrState
	case !ok:
		return api.ErrNotFound
	case a.Clerk == p.Clerk:
		return api.ErrDenied
	}
	return api.OK
}

// checkingCertificates returns a function that checks the certificates of a registry, one after the other.
func checkingCertificates(r api.Registry) func(before []api.Certificate, c api.Certificate) api.Errno {
	return func(before []api.Certificate, c api.Certificate) api.Errno {
		i, ok := search(r.Proposals, c.Proposal)
		switch {
		case !ok:
			return api.ErrNotFound
		case !slices.Equal(c.Files, r.Proposals[i].Files):
			return api.ErrMismatch
		}
		return checkLink(before, c)
	}
}
