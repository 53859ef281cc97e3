package disposal_test

import (
	"math"
	"math/rand"
	"slices"
	"strings"
	"testing"

	"archivum/api"
	"archivum/code"
	"archivum/disposal"
	"archivum/verdict"
)

var always = api.Span{From: 0, Until: api.Forever}

// base returns a registry with the files 2, 4, 6, 8 and 10, which may be destroyed from day 11 on (6 not on the days 30 to 39), and 12, which has to be transferred. The clerks are 1 (manager), 3 (archivist), 5 (auditor), 7 (archivist, on the days 10 to 24) and 9 (manager, from day 30 on).
func base() api.Registry {
	r := api.Registry{
		Offices: []api.Office{{ID: 1, Name: "Mills", In: always}},
		Plans:   []api.Plan{{Version: 1, In: always, Classes: []api.Class{{Code: "1", Title: "Mills"}, {Code: "2", Title: "Weirs"}}}},
		Rules: []api.Rule{
			{ID: 1, Class: "1", Trigger: "closed", Action: api.ActionDestroy, In: always},
			{ID: 2, Class: "2", Trigger: "closed", Action: api.ActionTransfer, In: always},
		},
		Holds: []api.Hold{{ID: 1, Kind: api.HoldFile, Of: 6, Reason: "Inquiry", In: api.Span{From: 30, Until: 40}}},
		Clerks: []api.Clerk{
			{ID: 1, Role: api.RoleManager, Name: "Ada", In: always},
			{ID: 3, Role: api.RoleArchivist, Name: "Ben", In: always},
			{ID: 5, Role: api.RoleAuditor, Name: "Cleo", In: always},
			{ID: 7, Role: api.RoleArchivist, Name: "Dan", In: api.Span{From: 10, Until: 25}},
			{ID: 9, Role: api.RoleManager, Name: "Eve", In: api.Span{From: 30, Until: api.Forever}},
		},
	}
	for _, id := range []int{2, 4, 6, 8, 10, 12} {
		f := api.File{ID: id, Office: 1, Opened: 5, Closed: 10, Class: "1", Title: "Letters"}
		if id == 12 {
			f.Class = "2"
		}
		r.Files = append(r.Files, f)
	}
	return r
}

// full returns a registry without a fault that has something in all lists of this layer: the proposals 2 and 5 were carried out, 4 was withdrawn on day 20, and 8 is approved.
func full() api.Registry {
	r := base()
	r.Proposals = []api.Proposal{
		{ID: 2, Day: 12, Clerk: 1, Files: []int{2, 4}, Withdrawn: api.Forever},
		{ID: 4, Day: 13, Clerk: 1, Files: []int{6, 8}, Withdrawn: 20},
		{ID: 5, Day: 20, Clerk: 3, Files: []int{8}, Withdrawn: api.Forever},
		{ID: 8, Day: 21, Clerk: 5, Files: []int{6, 10}, Withdrawn: api.Forever},
	}
	r.Approvals = []api.Approval{
		{Proposal: 2, Day: 13, Clerk: 5}, {Proposal: 2, Day: 14, Clerk: 3}, {Proposal: 4, Day: 19, Clerk: 3}, {Proposal: 5, Day: 20, Clerk: 7},
		{Proposal: 5, Day: 20, Clerk: 1}, {Proposal: 8, Day: 23, Clerk: 7}, {Proposal: 8, Day: 31, Clerk: 9},
	}
	r.Certificates = chain(
		api.Certificate{Proposal: 2, Day: 15, Files: []int{2, 4}},
		api.Certificate{Proposal: 5, Day: 22, Files: []int{8}},
	)
	return r
}

// P14.1: each fault alone, at its limits.
func TestCheckFaults(t *testing.T) {
	for i, x := range []fault{
		{func(r *api.Registry) {}, api.OK},
		{func(r *api.Registry) { *r = api.Registry{} }, api.OK},
		{func(r *api.Registry) { *r = base() }, api.OK},
		{func(r *api.Registry) { r.Changed = -1 }, api.OK},
		{func(r *api.Registry) { r.Offices[0].Name = "" }, api.ErrName},
		{func(r *api.Registry) { r.Departures = []api.Departure{{File: 2, Day: 90}} }, api.ErrTwice},
		{func(r *api.Registry) { r.Departures = []api.Departure{{File: 10, Day: 90}} }, api.OK},
		{func(r *api.Registry) { r.Certificates = make([]api.Certificate, 1025) }, api.ErrTooLarge},

		{func(r *api.Registry) { r.Clerks = clerks(32) }, api.OK},
		{func(r *api.Registry) { r.Clerks = clerks(33) }, api.ErrTooLarge},
		{func(r *api.Registry) { r.Clerks[0].ID = 0 }, api.ErrRange},
		{func(r *api.Registry) { r.Clerks[4].ID = api.MaxID + 1 }, api.ErrRange},
		{func(r *api.Registry) { r.Clerks[2].Role = 0 }, api.ErrRange},
		{func(r *api.Registry) { r.Clerks[2].Role = 1 }, api.OK},
		{func(r *api.Registry) { r.Clerks[2].Role = 4 }, api.ErrRange},
		{func(r *api.Registry) { r.Clerks[2].Role = math.MinInt }, api.ErrRange},
		{func(r *api.Registry) { r.Clerks[2].In.From = -1 }, api.ErrRange},
		{func(r *api.Registry) { r.Clerks[2].In.Until = api.Forever + 1 }, api.ErrRange},
		{func(r *api.Registry) { r.Clerks[3].In.From = 25 }, api.ErrRange},
		{func(r *api.Registry) { r.Clerks[2].Name = "" }, api.ErrName},
		{func(r *api.Registry) { r.Clerks[2].Name = strings.Repeat("a", 65) }, api.ErrName},
		{func(r *api.Registry) { r.Clerks[2].Name = strings.Repeat("a", 64) }, api.OK},
		{func(r *api.Registry) { r.Clerks[1].ID = 1 }, api.ErrOrder},
		{func(r *api.Registry) { r.Clerks[4].ID = 6 }, api.ErrOrder},
		{func(r *api.Registry) { r.Clerks[2].In.Until = 24 }, api.OK},

		{func(r *api.Registry) { r.Proposals[0].ID = 0 }, api.ErrRange},
		{func(r *api.Registry) { r.Proposals[0].ID = -2 }, api.ErrRange},
		{func(r *api.Registry) { r.Proposals[3].ID = api.MaxID + 1 }, api.ErrRange},
		{func(r *api.Registry) { r.Proposals[3].ID, r.Approvals = api.MaxID, r.Approvals[:5] }, api.OK},
		{func(r *api.Registry) { r.Proposals[0].Day = -1 }, api.ErrRange},
		{func(r *api.Registry) { r.Proposals[0].Day = 0 }, api.OK},
		{func(r *api.Registry) { r.Proposals[3].Day, r.Approvals = api.MaxDay, r.Approvals[:5] }, api.OK},
		{func(r *api.Registry) { r.Proposals[3].Day = api.MaxDay + 1 }, api.ErrRange},
		{func(r *api.Registry) { r.Proposals[3].Day = math.MaxInt }, api.ErrRange},
		{func(r *api.Registry) { r.Proposals[1].Withdrawn, r.Approvals = 13, slices.Delete(r.Approvals, 2, 3) }, api.OK},
		{func(r *api.Registry) { r.Proposals[1].Withdrawn = 12 }, api.ErrRange},
		{func(r *api.Registry) { r.Proposals[3].Withdrawn = api.MaxDay }, api.OK},
		{func(r *api.Registry) { r.Proposals[3].Withdrawn = api.Forever + 1 }, api.ErrRange},
		{func(r *api.Registry) { r.Proposals[3].Withdrawn = math.MaxInt }, api.ErrRange},
		{func(r *api.Registry) { r.Proposals[3].Withdrawn = 0 }, api.ErrRange},
		{func(r *api.Registry) { r.Proposals[1].ID = 2 }, api.ErrOrder},
		{func(r *api.Registry) { r.Proposals[1].Day = 11 }, api.ErrOrder},
		{func(r *api.Registry) { r.Proposals[1].Day = 12 }, api.OK},
		{func(r *api.Registry) { r.Proposals[0].Clerk = 2 }, api.ErrNotFound},
		{func(r *api.Registry) { r.Proposals[0].Clerk = 0 }, api.ErrNotFound},
		{func(r *api.Registry) { r.Proposals[0].Clerk = 9 }, api.ErrNotFound},
		{func(r *api.Registry) { r.Proposals[1].Clerk = 7 }, api.OK},
		{func(r *api.Registry) { r.Proposals[0].Clerk, r.Clerks[3].In.From = 7, 13 }, api.ErrNotFound},
		{func(r *api.Registry) { r.Proposals[0].Clerk, r.Clerks[3].In.From = 7, 12 }, api.OK},
		{func(r *api.Registry) { r.Clerks[2].In.Until = 21 }, api.ErrNotFound},
		{func(r *api.Registry) { r.Clerks[2].In.Until = 22 }, api.OK},
		{func(r *api.Registry) { r.Proposals[3].Files = nil }, api.ErrEmpty},
		{func(r *api.Registry) { r.Proposals[3].Files = []int{7} }, api.ErrNotFound},
		{func(r *api.Registry) { r.Proposals[3].Files = []int{10, 11} }, api.ErrNotFound},
		{func(r *api.Registry) { r.Proposals[3].Files = []int{0} }, api.ErrNotFound},
		{func(r *api.Registry) { r.Proposals[3].Files = []int{10, 6} }, api.ErrOrder},
		{func(r *api.Registry) { r.Proposals[3].Files = []int{6, 6} }, api.ErrOrder},
		{func(r *api.Registry) { r.Proposals[3].Files = []int{6, 10, 12} }, api.OK},
		{func(r *api.Registry) { r.Proposals[3].Files = []int{6, 8} }, api.ErrTwice},
		{func(r *api.Registry) { r.Proposals[3].Files = []int{2, 10} }, api.ErrTwice},
		{func(r *api.Registry) { r.Proposals[1].Withdrawn = 21 }, api.ErrTwice},
		{func(r *api.Registry) { r.Proposals[1].Withdrawn = api.Forever }, api.ErrTwice},
		{func(r *api.Registry) { r.Proposals = proposals(1024); r.Approvals, r.Certificates = nil, nil }, api.OK},
		{func(r *api.Registry) { r.Proposals = proposals(1025); r.Approvals, r.Certificates = nil, nil }, api.ErrTooLarge},

		{func(r *api.Registry) { r.Approvals[0].Proposal = 3 }, api.ErrNotFound},
		{func(r *api.Registry) { r.Approvals[0].Proposal = 9 }, api.ErrNotFound},
		{func(r *api.Registry) { r.Approvals[0].Proposal = 0 }, api.ErrNotFound},
		{func(r *api.Registry) { r.Approvals[0].Day = 11 }, api.ErrRange},
		{func(r *api.Registry) { r.Approvals[0].Day = 12 }, api.OK},
		{func(r *api.Registry) { r.Approvals[0].Day = math.MinInt }, api.ErrRange},
		{func(r *api.Registry) { r.Approvals[6].Day = api.MaxDay }, api.OK},
		{func(r *api.Registry) { r.Approvals[6].Day = api.MaxDay + 1 }, api.ErrRange},
		{func(r *api.Registry) { r.Approvals[1].Day = 12 }, api.ErrOrder},
		{func(r *api.Registry) { r.Approvals[1].Day = 13 }, api.OK},
		{func(r *api.Registry) { r.Approvals[2].Day = 20 }, api.ErrState},
		{func(r *api.Registry) { r.Approvals[2].Clerk = 2 }, api.ErrNotFound},
		{func(r *api.Registry) { r.Approvals[2].Clerk = 9 }, api.ErrNotFound},
		{func(r *api.Registry) { r.Approvals[5].Day = 24 }, api.OK},
		{func(r *api.Registry) { r.Approvals[5].Day = 25 }, api.ErrNotFound},
		{func(r *api.Registry) { r.Approvals[6].Day = 30 }, api.OK},
		{func(r *api.Registry) { r.Approvals[6].Day = 29 }, api.ErrNotFound},
		{func(r *api.Registry) { r.Approvals[1].Clerk = 1 }, api.ErrDenied},
		{func(r *api.Registry) { r.Approvals[1].Clerk = 5 }, api.ErrTwice},
		{func(r *api.Registry) { r.Approvals[6] = r.Approvals[5] }, api.ErrTwice},
		{func(r *api.Registry) {
			r.Approvals = append(r.Approvals, api.Approval{Proposal: 2, Day: 50, Clerk: 9})
		}, api.OK},
		{func(r *api.Registry) {
			r.Approvals = append(r.Approvals, api.Approval{Proposal: 2, Day: 50, Clerk: 3})
		}, api.ErrTwice},
		{func(r *api.Registry) { withApprovals(r, 1024) }, api.OK},
		{func(r *api.Registry) { withApprovals(r, 1025) }, api.ErrTooLarge},

		{func(r *api.Registry) { r.Certificates[0].Proposal = 3 }, api.ErrNotFound},
		{func(r *api.Registry) { r.Certificates[0].Proposal = 0 }, api.ErrNotFound},
		{func(r *api.Registry) { r.Certificates[0].Proposal = -1 }, api.ErrNotFound},
		{func(r *api.Registry) { r.Certificates[0].Proposal = 4 }, api.ErrMismatch},
		{func(r *api.Registry) { r.Certificates[0].Files = []int{2} }, api.ErrMismatch},
		{func(r *api.Registry) { r.Certificates[0].Files = nil }, api.ErrMismatch},
		{func(r *api.Registry) { r.Certificates[1].Files = []int{8, 10} }, api.ErrMismatch},
		{func(r *api.Registry) { r.Certificates[1].Files = []int{10} }, api.ErrMismatch},
		{func(r *api.Registry) { r.Certificates[0].Number = 2 }, api.ErrProof},
		{func(r *api.Registry) { r.Certificates[1].Number = 1 }, api.ErrProof},
		{func(r *api.Registry) { r.Certificates[0].Day = 14 }, api.ErrProof},
		{func(r *api.Registry) { r.Certificates[0].Before = "" }, api.ErrProof},
		{func(r *api.Registry) { r.Certificates[0].Digest = "" }, api.ErrProof},
		{func(r *api.Registry) { r.Certificates[1].Before = r.Certificates[0].Before }, api.ErrProof},
		{func(r *api.Registry) { r.Certificates[1].Digest = r.Certificates[0].Digest }, api.ErrProof},
		{func(r *api.Registry) { r.Certificates = r.Certificates[1:] }, api.ErrProof},
		{func(r *api.Registry) { r.Certificates = r.Certificates[:1] }, api.OK},
		{func(r *api.Registry) {
			r.Certificates = chain(api.Certificate{Proposal: 4, Day: 50, Files: []int{6, 8}})
		}, api.OK},
	} {
		r := full()
		x.change(&r)
		if e := disposal.Check(r); e != x.e || e != faultOf(r) {
			t.Error(i, e, x.e, faultOf(r))
		}
	}
}

func clerks(n int) []api.Clerk {
	var l []api.Clerk
	for i := range n {
		l = append(l, api.Clerk{ID: i + 1, Role: 1 + i%3, Name: "Ada", In: always})
	}
	return l
}

// proposals returns proposals of one file, each of which was withdrawn at once.
func proposals(n int) []api.Proposal {
	var l []api.Proposal
	for i := range n {
		l = append(l, api.Proposal{ID: i + 1, Day: 12, Clerk: 1, Files: []int{2}, Withdrawn: 12})
	}
	return l
}

// withApprovals gives a registry so many approvals, 31 of each proposal.
func withApprovals(r *api.Registry, n int) {
	r.Clerks, r.Proposals, r.Approvals, r.Certificates = clerks(32), proposals(50), nil, nil
	for i := range r.Proposals {
		r.Proposals[i].Day, r.Proposals[i].Withdrawn = i, i+1
	}
	for i := range n {
		r.Approvals = append(r.Approvals, api.Approval{Proposal: 1 + i/31, Day: i / 31, Clerk: 2 + i%31})
	}
}

// faultOf is the first fault of a registry by its definition.
func faultOf(r api.Registry) api.Errno {
	if e := verdict.Check(r); e != api.OK {
		return e
	}
	faults := []api.Errno{sizeFault(len(r.Clerks), 32)}
	for i := range r.Clerks {
		faults = append(faults, clerkFault(r, i))
	}
	faults = append(faults, sizeFault(len(r.Proposals), 1024))
	for i := range r.Proposals {
		faults = append(faults, proposalFault(r, i))
	}
	faults = append(faults, sizeFault(len(r.Approvals), 1024))
	for i := range r.Approvals {
		faults = append(faults, approvalFault(r, i))
	}
	for i := range r.Certificates {
		faults = append(faults, certificateFault(r, i))
	}
	for _, e := range faults {
		if e != api.OK {
			return e
		}
	}
	return api.OK
}

func sizeFault(n, most int) api.Errno {
	if n > most {
		return api.ErrTooLarge
	}
	return api.OK
}

func clerkFault(r api.Registry, i int) api.Errno {
	c := r.Clerks[i]
	switch {
	case c.ID < 1 || c.ID > 1<<30 || c.Role < 1 || c.Role > 3 || c.In.From < 0 || c.In.From >= c.In.Until || c.In.Until > 1<<20:
		return api.ErrRange
	case !code.Name(c.Name):
		return api.ErrName
	case i > 0 && c.ID <= r.Clerks[i-1].ID:
		return api.ErrOrder
	}
	return api.OK
}

func hasClerk(r api.Registry, id, day int) bool {
	for _, c := range r.Clerks {
		if c.ID == id && c.In.From <= day && day < c.In.Until {
			return true
		}
	}
	return false
}

func proposalFault(r api.Registry, i int) api.Errno {
	p := r.Proposals[i]
	unknown, taken := false, false
	for _, id := range p.Files {
		unknown = unknown || !slices.ContainsFunc(r.Files, func(f api.File) bool { return f.ID == id })
		for _, q := range r.Proposals[:i] {
			taken = taken || q.Withdrawn > p.Day && slices.Contains(q.Files, id)
		}
	}
	distinct := slices.Compact(slices.Sorted(slices.Values(p.Files)))
	switch {
	case p.ID < 1 || p.ID > 1<<30 || p.Day < 0 || p.Day >= 1<<20 || p.Withdrawn < p.Day || p.Withdrawn > 1<<20:
		return api.ErrRange
	case i > 0 && (r.Proposals[i-1].ID >= p.ID || r.Proposals[i-1].Day > p.Day):
		return api.ErrOrder
	case !hasClerk(r, p.Clerk, p.Day):
		return api.ErrNotFound
	case len(p.Files) == 0:
		return api.ErrEmpty
	case unknown:
		return api.ErrNotFound
	case !slices.Equal(distinct, p.Files):
		return api.ErrOrder
	case taken:
		return api.ErrTwice
	}
	return api.OK
}

// proposalOf returns the first proposal with an ID.
func proposalOf(r api.Registry, id int) (api.Proposal, bool) {
	for _, p := range r.Proposals {
		if p.ID == id {
			return p, true
		}
	}
	return api.Proposal{}, false
}

func approvalFault(r api.Registry, i int) api.Errno {
	a := r.Approvals[i]
	p, ok := proposalOf(r, a.Proposal)
	again := false
	for _, b := range r.Approvals[:i] {
		again = again || a.Proposal == b.Proposal && a.Clerk == b.Clerk
	}
	switch {
	case !ok:
		return api.ErrNotFound
	case a.Day < p.Day || a.Day > api.MaxDay:
		return api.ErrRange
	case i > 0 && a.Day < r.Approvals[i-1].Day:
		return api.ErrOrder
	case a.Day >= p.Withdrawn:
		return api.ErrState
	case !hasClerk(r, a.Clerk, a.Day):
		return api.ErrNotFound
	case a.Clerk == p.Clerk:
		return api.ErrDenied
	case again:
		return api.ErrTwice
	}
	return api.OK
}

func certificateFault(r api.Registry, i int) api.Errno {
	c := r.Certificates[i]
	p, ok := proposalOf(r, c.Proposal)
	switch {
	case !ok:
		return api.ErrNotFound
	case !slices.Equal(c.Files, p.Files):
		return api.ErrMismatch
	case wrongLink(r.Certificates) >= 0 && wrongLink(r.Certificates) <= i:
		return api.ErrProof
	}
	return api.OK
}

// fault is a change that leads to an error.
type fault struct {
	change func(r *api.Registry)
	e      api.Errno
}

// join returns a registry with the faults of a set, and the error of the first one.
func join(faults []fault, set int) (api.Registry, api.Errno) {
	r, e := full(), api.OK
	for k := len(faults) - 1; k >= 0; k-- {
		if set>>k&1 == 1 {
			faults[k].change(&r)
			e = faults[k].e
		}
	}
	return r, e
}

// P14.1: of one element the first row counts.
func TestCheckOrderOfRows(t *testing.T) {
	for n, faults := range [][]fault{
		{
			{func(r *api.Registry) { r.Clerks[4].Role = 9 }, api.ErrRange},
			{func(r *api.Registry) { r.Clerks[4].Name = " " }, api.ErrName},
			{func(r *api.Registry) { r.Clerks[4].ID = 7 }, api.ErrOrder},
		},
		{
			{func(r *api.Registry) { r.Proposals[3].Withdrawn = 3 }, api.ErrRange},
			{func(r *api.Registry) { r.Proposals[3].Day = 12 }, api.ErrOrder},
			{func(r *api.Registry) { r.Proposals[3].Clerk = 4 }, api.ErrNotFound},
			{func(r *api.Registry) { r.Proposals[3].Files = nil }, api.ErrEmpty},
			{func(r *api.Registry) { r.Proposals[3].Files = append([]int{5}, r.Proposals[3].Files...) }, api.ErrNotFound},
			{func(r *api.Registry) { r.Proposals[3].Files = append(r.Proposals[3].Files, 12, 12) }, api.ErrOrder},
			{func(r *api.Registry) { r.Proposals[3].Files = append([]int{2, 4}, r.Proposals[3].Files...) }, api.ErrTwice},
		},
		{
			{func(r *api.Registry) { r.Approvals[6].Proposal = 3 }, api.ErrNotFound},
			{func(r *api.Registry) { r.Approvals[6].Day = 5 }, api.ErrRange},
			{func(r *api.Registry) { r.Approvals[5].Day = 40; r.Clerks[3].In.Until = 50 }, api.ErrOrder},
			{func(r *api.Registry) { r.Proposals[3].Withdrawn = 31 }, api.ErrState},
			{func(r *api.Registry) { r.Approvals[6].Clerk = 7 }, api.ErrNotFound},
		},
		{
			{func(r *api.Registry) { r.Certificates[1].Proposal = 7 }, api.ErrNotFound},
			{func(r *api.Registry) { r.Certificates[1].Files = []int{10} }, api.ErrMismatch},
			{func(r *api.Registry) { r.Certificates[1].Digest = "?" }, api.ErrProof},
		},
	} {
		for set := range 1 << len(faults) {
			r, want := join(faults, set)
			// some of these changes have an effect on the others
			if got, own := disposal.Check(r), faultOf(r); got != own || n != 1 && n != 2 && got != want {
				t.Errorf("%d %b %v %v %v", n, set, got, own, want)
			}
		}
	}
}

// P14.1: of several faults that of the list that is named first counts, and of its elements the first one.
func TestCheckOrderOfLists(t *testing.T) {
	faults := []fault{
		{func(r *api.Registry) { r.Departures = []api.Departure{{File: 1}} }, api.ErrNotFound},
		{func(r *api.Registry) { r.Clerks[0].Name = "" }, api.ErrName},
		{func(r *api.Registry) { r.Clerks[4].ID = 7 }, api.ErrOrder},
		{func(r *api.Registry) { r.Proposals[0].Files = []int{} }, api.ErrEmpty},
		{func(r *api.Registry) { r.Proposals[3].Day = -5 }, api.ErrRange},
		{func(r *api.Registry) { r.Approvals[0].Proposal = 6 }, api.ErrNotFound},
		{func(r *api.Registry) { r.Approvals[2].Day = 20 }, api.ErrState},
		{func(r *api.Registry) { r.Certificates[0].Proposal = 6 }, api.ErrNotFound},
		{func(r *api.Registry) { r.Certificates[1].Files = []int{10} }, api.ErrMismatch},
	}
	for set := range 1 << len(faults) {
		r, want := join(faults, set)
		if e := disposal.Check(r); e != want {
			t.Errorf("%b %v %v", set, e, want)
		}
	}
	// too many elements go behind the faults of the lists before, and ahead of those of their own list
	for i, x := range []fault{
		{func(r *api.Registry) { r.Clerks[0].Name, r.Proposals = "", make([]api.Proposal, 1025) }, api.ErrName},
		{func(r *api.Registry) { r.Proposals[0].ID, r.Approvals = 0, make([]api.Approval, 1025) }, api.ErrRange},
		{func(r *api.Registry) { r.Approvals, r.Certificates[0].Proposal = make([]api.Approval, 1025), 6 }, api.ErrTooLarge},
		{func(r *api.Registry) { r.Clerks = make([]api.Clerk, 33) }, api.ErrTooLarge},
	} {
		r := full()
		x.change(&r)
		if e := disposal.Check(r); e != x.e {
			t.Error(i, e)
		}
	}
}

func pick[T any](r *rand.Rand, l ...T) T { return l[r.Intn(len(l))] }

// spoil changes one part of a registry, mostly to something invalid.
func spoil(rnd *rand.Rand, r *api.Registry) {
	number := pick(rnd, 0, -1, 1, 2, 3, 4, 5, 7, 8, 9, api.MaxID, api.MaxID+1, math.MinInt, math.MaxInt)
	day := pick(rnd, -1, 0, 12, 13, 15, 20, 21, 24, 25, 29, 30, api.MaxDay, api.MaxDay+1, math.MinInt, math.MaxInt)
	files := pick(rnd, nil, []int{2}, []int{2, 4}, []int{4, 2}, []int{10}, []int{6, 6}, []int{8}, []int{3}, []int{12})
	text := pick(rnd, "", "?", strings.Repeat("x", 32))
	c, p, a, x := &r.Clerks[rnd.Intn(5)], &r.Proposals[rnd.Intn(4)], &r.Approvals[rnd.Intn(7)], &r.Certificates[rnd.Intn(2)]
	for k, change := range []func(){
		func() { c.ID = number },
		func() { c.Role = number },
		func() { c.Name = text },
		func() { c.In.From = day },
		func() { c.In.Until = day },
		func() { p.ID = number },
		func() { p.Day = day },
		func() { p.Clerk = number },
		func() { p.Files = files },
		func() { p.Withdrawn = pick(rnd, day, api.Forever) },
		func() { a.Proposal = number },
		func() { a.Day = day },
		func() { a.Clerk = number },
		func() { x.Number = number },
		func() { x.Proposal = number },
		func() { x.Day = day },
		func() { x.Files = files },
		func() { x.Before = text },
		func() { x.Digest = text },
		func() { r.Certificates = chain(r.Certificates...) },
		func() { r.Rules[0].Years = pick(rnd, 1, 200, 201) },
	} {
		if rnd.Intn(21) == k {
			change()
		}
	}
}

// P14.1: many registries, with and without faults.
func TestCheckMany(t *testing.T) {
	rnd := rand.New(rand.NewSource(1))
	seen := map[api.Errno]int{}
	for range 20000 {
		r := full()
		for range 1 + rnd.Intn(3) {
			spoil(rnd, &r)
		}
		want := faultOf(r)
		seen[want]++
		if e := disposal.Check(r); e != want {
			t.Fatalf("%+v %v %v", r, e, want)
		}
	}
	for _, e := range []api.Errno{api.OK, api.ErrRange, api.ErrName, api.ErrOrder, api.ErrNotFound, api.ErrEmpty, api.ErrTwice, api.ErrState, api.ErrDenied, api.ErrMismatch, api.ErrProof} {
		if seen[e] < 20 {
			t.Error(e, seen[e])
		}
	}
}
