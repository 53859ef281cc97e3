package disposal_test

import (
	"fmt"
	"math"
	"math/rand"
	"reflect"
	"slices"
	"strings"
	"testing"

	"archivum/api"
	"archivum/digest"
	"archivum/disposal"
	"archivum/verdict"
)

// needOf is the first fault by which a proposal is not ready on a day, in a registry without a fault.
func needOf(r api.Registry, p api.Proposal, day int) api.Errno {
	approvals, archivists, held := 0, 0, false
	for _, a := range r.Approvals {
		if a.Proposal == p.ID && a.Day <= day {
			approvals++
			for _, c := range r.Clerks {
				if c.ID == a.Clerk && c.Role == api.RoleArchivist {
					archivists++
				}
			}
		}
	}
	for _, id := range p.Files {
		v, _ := verdict.On(r, id, day)
		held = held || v.Kind != api.VerdictDestroy
	}
	switch {
	case day < p.Day:
		return api.ErrOrder
	case p.Withdrawn <= day || slices.ContainsFunc(r.Certificates, func(c api.Certificate) bool { return c.Proposal == p.ID }):
		return api.ErrState
	case approvals < 2 || archivists == 0:
		return api.ErrDenied
	case held:
		return api.ErrHeld
	}
	return api.OK
}

// copyOf returns a copy of the lists of a registry to which this layer adds.
func copyOf(r api.Registry) api.Registry {
	r.Proposals, r.Approvals, r.Certificates = slices.Clone(r.Proposals), slices.Clone(r.Approvals), slices.Clone(r.Certificates)
	return r
}

// proposing returns what Propose has to return, by its definition.
func proposing(r api.Registry, p api.Proposal) (api.Registry, api.Errno) {
	r = copyOf(r)
	if faultOf(r) != api.OK {
		return api.Registry{}, api.ErrArg
	}
	if p.Withdrawn != api.Forever {
		return api.Registry{}, api.ErrState
	}
	r.Proposals = append(r.Proposals, p)
	if e := faultOf(r); e != api.OK {
		return api.Registry{}, e
	}
	return r, api.OK
}

// approving returns what Approve has to return.
func approving(r api.Registry, a api.Approval) (api.Registry, api.Errno) {
	r = copyOf(r)
	if faultOf(r) != api.OK {
		return api.Registry{}, api.ErrArg
	}
	r.Approvals = append(r.Approvals, a)
	if e := faultOf(r); e != api.OK {
		return api.Registry{}, e
	}
	return r, api.OK
}

// withdrawing returns what Withdraw has to return.
func withdrawing(r api.Registry, proposal, day int) (api.Registry, api.Errno) {
	r = copyOf(r)
	if faultOf(r) != api.OK {
		return api.Registry{}, api.ErrArg
	}
	p, ok := proposalOf(r, proposal)
	if !ok {
		return api.Registry{}, api.ErrNotFound
	}
	if day < p.Day || day > api.MaxDay {
		return api.Registry{}, api.ErrRange
	}
	bound := p.Withdrawn != api.Forever
	for _, c := range r.Certificates {
		bound = bound || c.Proposal == p.ID
	}
	for _, a := range r.Approvals {
		bound = bound || a.Proposal == p.ID && a.Day >= day
	}
	if bound {
		return api.Registry{}, api.ErrState
	}
	for i := range r.Proposals {
		if r.Proposals[i].ID == proposal {
			r.Proposals[i].Withdrawn = day
		}
	}
	return r, api.OK
}

// destroying returns what Ready and Destroy have to return.
func destroying(r api.Registry, proposal, day int) (ready api.Errno, x api.Registry, c api.Certificate, e api.Errno) {
	fail := func(ready, e api.Errno) (api.Errno, api.Registry, api.Certificate, api.Errno) {
		return ready, api.Registry{}, api.Certificate{}, e
	}
	r = copyOf(r)
	p, ok := proposalOf(r, proposal)
	switch {
	case faultOf(r) != api.OK:
		return fail(api.ErrArg, api.ErrArg)
	case !ok:
		return fail(api.ErrNotFound, api.ErrNotFound)
	case day < 0 || day > api.MaxDay:
		return fail(api.ErrRange, api.ErrRange)
	}
	if e := needOf(r, p, day); e != api.OK {
		return fail(e, e)
	}
	for _, c := range r.Certificates {
		if c.Day > day {
			return fail(api.OK, api.ErrOrder)
		}
	}
	for _, d := range r.Departures {
		if slices.Contains(p.Files, d.File) {
			return fail(api.OK, api.ErrTwice)
		}
	}
	r.Certificates = chain(append(r.Certificates, api.Certificate{Proposal: p.ID, Day: day, Files: p.Files})...)
	return api.OK, r, r.Certificates[len(r.Certificates)-1], api.OK
}

// isSame compares two registries, in which empty lists are the same as none.
func isSame(a, b api.Registry) bool { return fmt.Sprintf("%+v", a) == fmt.Sprintf("%+v", b) }

// P14.2, P14.3: the example of the chapter.
func TestExample(t *testing.T) {
	r := base()
	r.Files = []api.File{{ID: 7, Office: 1, Opened: 5, Closed: 10, Class: "1", Title: "Letters"}}
	r.Holds = []api.Hold{{ID: 2, Kind: api.HoldFile, Of: 7, Reason: "Inquiry", In: api.Span{From: 12, Until: 20}}}
	r.Clerks = []api.Clerk{{ID: 1, Role: api.RoleManager, Name: "Ada", In: always}, {ID: 2, Role: api.RoleManager, Name: "Ben", In: always}, {ID: 3, Role: api.RoleArchivist, Name: "Cleo", In: always}}
	r, e := disposal.Propose(r, api.Proposal{ID: 1, Day: 11, Clerk: 1, Files: []int{7}, Withdrawn: api.Forever})
	if e != api.OK {
		t.Fatal(e)
	}
	for _, a := range []api.Approval{{Proposal: 1, Day: 11, Clerk: 2}, {Proposal: 1, Day: 20, Clerk: 3}} {
		if r, e = disposal.Approve(r, a); e != api.OK {
			t.Fatal(e)
		}
	}
	for day, want := range map[int]api.Errno{10: api.ErrOrder, 11: api.ErrDenied, 19: api.ErrDenied, 20: api.OK, api.MaxDay: api.OK} {
		if e := disposal.Ready(r, 1, day); e != want {
			t.Error(day, e)
		}
	}
	x, c, e := disposal.Destroy(r, 1, 20)
	want := api.Certificate{Number: 1, Proposal: 1, Day: 20, Files: []int{7}, Before: strings.Repeat("\x00", 32)}
	want.Digest = digest.Sum("certificate 1 proposal 1 day 20 files 7\n" + want.Before)
	if e != api.OK || !reflect.DeepEqual(c, want) || !reflect.DeepEqual(x.Certificates, []api.Certificate{want}) {
		t.Error(c, e)
	}
}

// P14.2: what a proposal needs, one after the other, and each limit.
func TestReady(t *testing.T) {
	for i, x := range []struct {
		change        func(r *api.Registry)
		proposal, day int
		e             api.Errno
	}{
		{func(r *api.Registry) {}, 8, 31, api.ErrHeld},
		{func(r *api.Registry) {}, 8, 39, api.ErrHeld},
		{func(r *api.Registry) {}, 8, 40, api.OK},
		{func(r *api.Registry) {}, 8, api.MaxDay, api.OK},
		{func(r *api.Registry) {}, 8, 30, api.ErrDenied},
		{func(r *api.Registry) {}, 8, 21, api.ErrDenied},
		{func(r *api.Registry) {}, 8, 20, api.ErrOrder},
		{func(r *api.Registry) { r.Approvals[6].Day = 30 }, 8, 40, api.OK},
		{func(r *api.Registry) { r.Approvals[6].Day = 40 }, 8, 40, api.OK},
		{func(r *api.Registry) { r.Approvals[6].Day = 41 }, 8, 40, api.ErrDenied},
		// the archivist Dan has left on day 25, but has approved before
		{func(r *api.Registry) { r.Clerks[3].Role = api.RoleAuditor }, 8, 40, api.ErrDenied},
		{func(r *api.Registry) { r.Clerks[4].Role = api.RoleArchivist }, 8, 40, api.OK},
		{func(r *api.Registry) { r.Clerks[3].Role, r.Clerks[4].Role = api.RoleManager, api.RoleArchivist }, 8, 40, api.OK},
		{func(r *api.Registry) { r.Approvals = r.Approvals[:6] }, 8, 40, api.ErrDenied},
		{func(r *api.Registry) { r.Approvals = slices.Delete(r.Approvals, 5, 6) }, 8, 40, api.ErrDenied},
		{func(r *api.Registry) { r.Approvals = nil }, 8, 40, api.ErrDenied},
		// two approvals of others do not help, and the proposer is not asked
		{func(r *api.Registry) { r.Approvals, r.Certificates = r.Approvals[2:3], nil }, 2, 40, api.ErrDenied},
		{func(r *api.Registry) { r.Approvals[4].Clerk, r.Approvals[3].Clerk, r.Certificates = 5, 1, nil }, 5, 40, api.ErrDenied},
		{func(r *api.Registry) {}, 4, 19, api.ErrDenied},
		{func(r *api.Registry) {}, 4, 20, api.ErrState},
		{func(r *api.Registry) {}, 4, 12, api.ErrOrder},
		{func(r *api.Registry) { r.Proposals[3].Withdrawn = 41 }, 8, 40, api.OK},
		{func(r *api.Registry) { r.Proposals[3].Withdrawn = 40 }, 8, 40, api.ErrState},
		{func(r *api.Registry) {}, 2, 15, api.ErrState},
		{func(r *api.Registry) {}, 2, 14, api.ErrState},
		{func(r *api.Registry) {}, 2, 11, api.ErrOrder},
		{func(r *api.Registry) { r.Certificates = r.Certificates[:1] }, 5, 22, api.OK},
		{func(r *api.Registry) { r.Proposals[3].Files = []int{10, 12} }, 8, 40, api.ErrHeld},
		{func(r *api.Registry) { r.Proposals[3].Files = []int{10} }, 8, 31, api.OK},
		{func(r *api.Registry) { r.Selections = []api.Selection{{Sample: 1, Day: 40, Files: []int{10}}} }, 8, 40, api.ErrHeld},
		{func(r *api.Registry) { r.Selections = []api.Selection{{Sample: 1, Day: 41, Files: []int{10}}} }, 8, 40, api.OK},
		{func(r *api.Registry) { r.Departures = []api.Departure{{File: 10, Day: 40}} }, 8, 40, api.ErrHeld},
		{func(r *api.Registry) { r.Departures = []api.Departure{{File: 10, Day: 41}} }, 8, 40, api.OK},
		{func(r *api.Registry) { r.Files[4].Closed = 40 }, 8, 40, api.ErrHeld},
		{func(r *api.Registry) { r.Files[4].Closed = 40 }, 8, 41, api.OK},
	} {
		r := full()
		x.change(&r)
		want, _, _, _ := destroying(r, x.proposal, x.day)
		if e := disposal.Ready(r, x.proposal, x.day); e != x.e || e != want {
			t.Error(i, e, x.e, want)
		}
	}
}

// P14.2, P14.3: the errors of Ready and Destroy, in their order.
func TestDestroyErrors(t *testing.T) {
	for i, x := range []struct {
		change        func(r *api.Registry)
		proposal, day int
		ready, e      api.Errno
	}{
		{func(r *api.Registry) {}, 8, 40, api.OK, api.OK},
		{func(r *api.Registry) { r.Clerks[0].ID = 0 }, 8, 40, api.ErrArg, api.ErrArg},
		{func(r *api.Registry) { r.Clerks[0].ID = 0 }, 9, -1, api.ErrArg, api.ErrArg},
		{func(r *api.Registry) { r.Rules[0].ID = 0 }, 8, 40, api.ErrArg, api.ErrArg},
		{func(r *api.Registry) {}, 9, -1, api.ErrNotFound, api.ErrNotFound},
		{func(r *api.Registry) {}, 9, 40, api.ErrNotFound, api.ErrNotFound},
		{func(r *api.Registry) {}, 0, 40, api.ErrNotFound, api.ErrNotFound},
		{func(r *api.Registry) {}, 3, 40, api.ErrNotFound, api.ErrNotFound},
		{func(r *api.Registry) {}, math.MinInt, 40, api.ErrNotFound, api.ErrNotFound},
		{func(r *api.Registry) {}, math.MaxInt, 40, api.ErrNotFound, api.ErrNotFound},
		{func(r *api.Registry) {}, 8, -1, api.ErrRange, api.ErrRange},
		{func(r *api.Registry) {}, 8, api.MaxDay + 1, api.ErrRange, api.ErrRange},
		{func(r *api.Registry) {}, 8, math.MinInt, api.ErrRange, api.ErrRange},
		{func(r *api.Registry) {}, 8, math.MaxInt, api.ErrRange, api.ErrRange},
		{func(r *api.Registry) {}, 2, -1, api.ErrRange, api.ErrRange},
		{func(r *api.Registry) {}, 8, 0, api.ErrOrder, api.ErrOrder},
		{func(r *api.Registry) { lastOn(r, 40) }, 8, 40, api.OK, api.OK},
		{func(r *api.Registry) { lastOn(r, 41) }, 8, 40, api.OK, api.ErrOrder},
		{func(r *api.Registry) { lastOn(r, 41) }, 8, 39, api.ErrHeld, api.ErrHeld},
		{func(r *api.Registry) {
			r.Certificates = chain(api.Certificate{Proposal: 2, Day: 41, Files: []int{2, 4}})
		}, 8, 40, api.OK, api.ErrOrder},
		{func(r *api.Registry) { r.Certificates = nil }, 8, 40, api.OK, api.OK},
		{func(r *api.Registry) { r.Departures = []api.Departure{{File: 10, Day: 41}} }, 8, 40, api.OK, api.ErrTwice},
		{func(r *api.Registry) { r.Departures = []api.Departure{{File: 6, Day: api.MaxDay}} }, 8, 40, api.OK, api.ErrTwice},
		{func(r *api.Registry) { r.Departures = []api.Departure{{File: 12, Day: 40}, {File: 10, Day: 41}} }, 8, 40, api.OK, api.ErrTwice},
		{func(r *api.Registry) { r.Departures = []api.Departure{{File: 12, Day: 41}} }, 8, 40, api.OK, api.OK},
		{func(r *api.Registry) {
			lastOn(r, 41)
			r.Departures = []api.Departure{{File: 10, Day: 41}}
		}, 8, 40, api.OK, api.ErrOrder},
	} {
		r := full()
		x.change(&r)
		ready, want, certificate, e := destroying(r, x.proposal, x.day)
		if ready != x.ready || e != x.e {
			t.Error(i, ready, e)
		}
		if e := disposal.Ready(r, x.proposal, x.day); e != x.ready {
			t.Error(i, e)
		}
		got, c, e := disposal.Destroy(r, x.proposal, x.day)
		if e != x.e || !isSame(got, want) || !reflect.DeepEqual(c, certificate) {
			t.Error(i, c, e)
		}
	}
}

// lastOn gives the last certificate a day.
func lastOn(r *api.Registry, day int) {
	r.Certificates[1].Day = day
	r.Certificates = chain(r.Certificates...)
}

// P14.2: the errors of Withdraw, in their order.
func TestWithdraw(t *testing.T) {
	for i, x := range []struct {
		change        func(r *api.Registry)
		proposal, day int
		e             api.Errno
	}{
		{func(r *api.Registry) {}, 8, 32, api.OK},
		{func(r *api.Registry) {}, 8, 31, api.ErrState},
		{func(r *api.Registry) {}, 8, 21, api.ErrState},
		{func(r *api.Registry) {}, 8, 20, api.ErrRange},
		{func(r *api.Registry) {}, 8, api.MaxDay, api.OK},
		{func(r *api.Registry) {}, 8, api.MaxDay + 1, api.ErrRange},
		{func(r *api.Registry) {}, 8, math.MinInt, api.ErrRange},
		{func(r *api.Registry) {}, 8, math.MaxInt, api.ErrRange},
		{func(r *api.Registry) { r.Approvals = r.Approvals[:5] }, 8, 21, api.OK},
		{func(r *api.Registry) { r.Approvals = r.Approvals[:6] }, 8, 23, api.ErrState},
		{func(r *api.Registry) { r.Approvals = r.Approvals[:6] }, 8, 24, api.OK},
		{func(r *api.Registry) {}, 4, 50, api.ErrState},
		{func(r *api.Registry) {}, 4, 20, api.ErrState},
		{func(r *api.Registry) {}, 2, 50, api.ErrState},
		{func(r *api.Registry) {}, 5, 50, api.ErrState},
		{func(r *api.Registry) { r.Certificates = r.Certificates[:1] }, 5, 50, api.OK},
		{func(r *api.Registry) {}, 2, 11, api.ErrRange},
		{func(r *api.Registry) {}, 3, -1, api.ErrNotFound},
		{func(r *api.Registry) {}, 0, 50, api.ErrNotFound},
		{func(r *api.Registry) {}, 9, 50, api.ErrNotFound},
		{func(r *api.Registry) { r.Certificates[1].Digest = "" }, 9, 50, api.ErrArg},
		{func(r *api.Registry) { r.Holds[0].Of = 0 }, 8, -1, api.ErrArg},
	} {
		r := full()
		x.change(&r)
		want, e := withdrawing(r, x.proposal, x.day)
		if e != x.e {
			t.Error(i, e, x.e)
		}
		if got, e := disposal.Withdraw(r, x.proposal, x.day); e != x.e || !isSame(got, want) {
			t.Error(i, got, e)
		}
	}
}

// P14.2: the errors of Propose and Approve, in their order.
func TestProposeApproveErrors(t *testing.T) {
	for i, x := range []struct {
		change func(r *api.Registry, p *api.Proposal)
		e      api.Errno
	}{
		{func(_ *api.Registry, p *api.Proposal) {}, api.OK},
		{func(r *api.Registry, p *api.Proposal) { r.Clerks[0].ID, p.Withdrawn = 0, 30 }, api.ErrArg},
		{func(r *api.Registry, p *api.Proposal) { r.Departures = []api.Departure{{File: 1}} }, api.ErrArg},
		{func(r *api.Registry, p *api.Proposal) { r.Certificates[1].Number = 1 }, api.ErrArg},
		{func(_ *api.Registry, p *api.Proposal) { p.Withdrawn, p.ID = 30, 0 }, api.ErrState},
		{func(_ *api.Registry, p *api.Proposal) { p.Withdrawn = api.MaxDay }, api.ErrState},
		{func(_ *api.Registry, p *api.Proposal) { p.Withdrawn = api.Forever + 1 }, api.ErrState},
		{func(_ *api.Registry, p *api.Proposal) { p.ID = 0 }, api.ErrRange},
		{func(_ *api.Registry, p *api.Proposal) { p.ID = 8 }, api.ErrOrder},
		{func(_ *api.Registry, p *api.Proposal) { p.Day = 20 }, api.ErrOrder},
		{func(_ *api.Registry, p *api.Proposal) { p.Clerk = 7 }, api.ErrNotFound},
		{func(_ *api.Registry, p *api.Proposal) { p.Files = nil }, api.ErrEmpty},
		{func(_ *api.Registry, p *api.Proposal) { p.Files = []int{12, 13} }, api.ErrNotFound},
		{func(_ *api.Registry, p *api.Proposal) { p.Files = []int{12, 12} }, api.ErrOrder},
		{func(_ *api.Registry, p *api.Proposal) { p.Files = []int{10, 12} }, api.ErrTwice},
		{func(_ *api.Registry, p *api.Proposal) { p.Files = []int{2} }, api.ErrTwice},
		{func(r *api.Registry, p *api.Proposal) {
			r.Proposals, r.Approvals, r.Certificates = proposals(1024), nil, nil
			p.ID = 2000
		}, api.ErrTooLarge},
		{func(r *api.Registry, p *api.Proposal) {
			r.Proposals, r.Approvals, r.Certificates = proposals(1023), nil, nil
			p.ID = 2000
		}, api.OK},
	} {
		r, p := full(), api.Proposal{ID: 9, Day: 30, Clerk: 5, Files: []int{12}, Withdrawn: api.Forever}
		x.change(&r, &p)
		want, e := proposing(r, p)
		if e != x.e {
			t.Error(i, e, x.e)
		}
		if got, e := disposal.Propose(r, p); e != x.e || !isSame(got, want) {
			t.Error(i, got, e)
		}
	}
	for i, x := range []struct {
		change func(r *api.Registry, a *api.Approval)
		e      api.Errno
	}{
		{func(_ *api.Registry, a *api.Approval) {}, api.OK},
		{func(r *api.Registry, a *api.Approval) { r.Clerks[0].ID, a.Proposal = 0, 3 }, api.ErrArg},
		{func(r *api.Registry, a *api.Approval) { r.Files[0].ID = 0 }, api.ErrArg},
		{func(_ *api.Registry, a *api.Approval) { a.Proposal = 3 }, api.ErrNotFound},
		{func(_ *api.Registry, a *api.Approval) { a.Day = 20 }, api.ErrRange},
		{func(_ *api.Registry, a *api.Approval) { a.Day = 30 }, api.ErrOrder},
		{func(r *api.Registry, a *api.Approval) { r.Proposals[3].Withdrawn = 40 }, api.ErrState},
		{func(_ *api.Registry, a *api.Approval) { a.Clerk = 7 }, api.ErrNotFound},
		{func(_ *api.Registry, a *api.Approval) { a.Clerk = 5 }, api.ErrDenied},
		{func(_ *api.Registry, a *api.Approval) { a.Clerk = 9 }, api.ErrTwice},
		{func(r *api.Registry, a *api.Approval) { withApprovals(r, 1024); a.Proposal, a.Day, a.Clerk = 50, 49, 2 }, api.ErrTooLarge},
		{func(r *api.Registry, a *api.Approval) { withApprovals(r, 1023); a.Proposal, a.Day, a.Clerk = 50, 49, 2 }, api.OK},
	} {
		r, a := full(), api.Approval{Proposal: 8, Day: 40, Clerk: 3}
		x.change(&r, &a)
		want, e := approving(r, a)
		if e != x.e {
			t.Error(i, e, x.e)
		}
		if got, e := disposal.Approve(r, a); e != x.e || !isSame(got, want) {
			t.Error(i, got, e)
		}
	}
}

// step applies one function with arguments at random, compares it with its definition, and returns the registry behind it.
func step(t *testing.T, rnd *rand.Rand, r api.Registry, day int, done map[string]int) api.Registry {
	t.Helper()
	proposal := 1 + rnd.Intn(len(r.Proposals)+1)
	var got, want api.Registry
	var e, f api.Errno
	kind := pick(rnd, "propose", "approve", "approve", "approve", "withdraw", "destroy", "destroy")
	switch kind {
	case "propose":
		p := api.Proposal{ID: len(r.Proposals) + pick(rnd, 1, 1, 1, 0), Day: day, Clerk: pick(rnd, 1, 3, 5, 7, 9), Files: pick(rnd, []int{2}, []int{4, 6}, []int{4}, []int{8, 10}, []int{10, 12}, []int{6}), Withdrawn: api.Forever}
		want, f = proposing(r, p)
		got, e = disposal.Propose(r, p)
	case "approve":
		a := api.Approval{Proposal: proposal, Day: day, Clerk: pick(rnd, 1, 3, 3, 5, 7, 9)}
		want, f = approving(r, a)
		got, e = disposal.Approve(r, a)
	case "withdraw":
		want, f = withdrawing(r, proposal, day)
		got, e = disposal.Withdraw(r, proposal, day)
	case "destroy":
		var ready api.Errno
		var c, d api.Certificate
		ready, want, d, f = destroying(r, proposal, day)
		if e := disposal.Ready(r, proposal, day); e != ready {
			t.Fatalf("%+v %d %d %v %v", r, proposal, day, e, ready)
		}
		if got, c, e = disposal.Destroy(r, proposal, day); !reflect.DeepEqual(c, d) {
			t.Fatalf("%+v %d %d %v %v", r, proposal, day, c, d)
		}
	}
	if e != f || !isSame(got, want) {
		t.Fatalf("%+v %s %d %d %v %v", r, kind, proposal, day, e, f)
	}
	done[text(kind, e)]++
	if e == api.OK {
		return got
	}
	return r
}

func text(kind string, e api.Errno) string { return fmt.Sprintf("%s %d", kind, int(e)) }

// P14.2, P14.3, P14.4: many histories, in which registries remain without a fault, and nothing is destroyed that should not be.
func TestHistories(t *testing.T) {
	rnd := rand.New(rand.NewSource(2))
	done := map[string]int{}
	for range 1500 {
		r, day := base(), 8
		r.Selections = []api.Selection{{Sample: 1, Day: 20 + rnd.Intn(40), Files: []int{4}}}
		r.Departures = []api.Departure{{File: 2, Day: 20 + rnd.Intn(60)}}
		for range 30 {
			day += rnd.Intn(4)
			r = step(t, rnd, r, max(day-rnd.Intn(3), 0), done)
		}
		if e := faultOf(r); e != api.OK {
			t.Fatalf("%+v %v", r, e)
		}
		checkDestroyed(t, r)
	}
	for kind, least := range map[string]int{
		"propose 0": 100, "approve 0": 100, "withdraw 0": 100, "destroy 0": 50,
		text("propose", api.ErrOrder): 100, text("propose", api.ErrNotFound): 20, text("propose", api.ErrTwice): 100,
		text("approve", api.ErrOrder): 20, text("approve", api.ErrState): 100, text("approve", api.ErrDenied): 100, text("approve", api.ErrTwice): 100,
		text("withdraw", api.ErrState): 100, text("withdraw", api.ErrRange): 10,
		text("destroy", api.ErrState): 100, text("destroy", api.ErrDenied): 100, text("destroy", api.ErrHeld): 20, text("destroy", api.ErrOrder): 20, text("destroy", api.ErrTwice): 1,
	} {
		if done[kind] < least {
			t.Error(kind, done[kind])
		}
	}
}

// checkDestroyed checks the consequences for everything that was destroyed.
func checkDestroyed(t *testing.T, r api.Registry) {
	t.Helper()
	carried := map[int]bool{}
	for i, c := range r.Certificates {
		p, _ := proposalOf(r, c.Proposal)
		approvers, archivists := map[int]bool{}, 0
		for _, a := range r.Approvals {
			if a.Proposal != p.ID || a.Day > c.Day {
				continue
			}
			approvers[a.Clerk] = true
			if a.Clerk == 3 || a.Clerk == 7 {
				archivists++
			}
		}
		if len(approvers) < 2 || approvers[p.Clerk] || archivists == 0 || carried[p.ID] || p.Withdrawn != api.Forever {
			t.Fatalf("%+v %d", r, i)
		}
		carried[p.ID] = true
		if e := disposal.Ready(r, p.ID, c.Day); e != api.ErrState {
			t.Fatalf("%+v %d %v", r, i, e)
		}
		before := copyOf(r)
		before.Certificates = before.Certificates[:i]
		for _, id := range c.Files {
			v, _ := verdict.On(before, id, c.Day)
			w, _ := verdict.On(r, id, c.Day)
			x, _ := verdict.On(r, id, api.MaxDay)
			if v.Kind != api.VerdictDestroy || w.Kind != api.VerdictGone || x.Kind != api.VerdictGone {
				t.Fatalf("%+v %d %v %v %v", r, i, v, w, x)
			}
		}
	}
}

// scramble changes all numbers and texts that lists below a value contain.
func scramble(v reflect.Value) {
	switch v.Kind() {
	case reflect.Struct:
		for i := range v.NumField() {
			scramble(v.Field(i))
		}
	case reflect.Slice:
		for i := range v.Len() {
			scramble(v.Index(i))
		}
		// what stands behind the end of a list belongs to nobody else either
		if v.Cap() > v.Len() {
			scramble(v.Slice3(0, v.Cap(), v.Cap()).Index(v.Len()))
		}
	case reflect.Int:
		v.SetInt(-77)
	case reflect.String:
		v.SetString("?")
	case reflect.Bool:
		v.SetBool(true)
	}
}

// roomy returns a registry whose lists have room behind their ends.
func roomy() api.Registry {
	r := full()
	r.Proposals = append(make([]api.Proposal, 0, 20), r.Proposals...)
	r.Approvals = append(make([]api.Approval, 0, 20), r.Approvals...)
	r.Certificates = append(make([]api.Certificate, 0, 20), r.Certificates...)
	r.Selections = []api.Selection{{Sample: 1, Day: 90, Files: []int{12}}}
	r.Departures = []api.Departure{{File: 12, Day: 90}}
	r.Files[5].Notes = []api.Note{{Name: "paid", Recorded: 20}}
	r.Offices[0].In.Until, r.Offices[0].Next = 60, []int{2}
	r.Offices = append(r.Offices, api.Office{ID: 2, Name: "Works", In: api.Span{From: 60, Until: api.Forever}})
	return r
}

// P14.2, P14.3: arguments are not modified, and results share no memory with them, or with each other.
func TestMemory(t *testing.T) {
	behind := func(r api.Registry) string {
		return fmt.Sprint(r.Proposals[:20], r.Approvals[:20], r.Certificates[:20])
	}
	for i, apply := range []func(r api.Registry, files []int) (api.Registry, api.Errno){
		func(r api.Registry, files []int) (api.Registry, api.Errno) {
			return disposal.Propose(r, api.Proposal{ID: 9, Day: 30, Clerk: 5, Files: files, Withdrawn: api.Forever})
		},
		func(r api.Registry, _ []int) (api.Registry, api.Errno) {
			return disposal.Approve(r, api.Approval{Proposal: 8, Day: 40, Clerk: 3})
		},
		func(r api.Registry, _ []int) (api.Registry, api.Errno) { return disposal.Withdraw(r, 8, 40) },
		func(r api.Registry, _ []int) (api.Registry, api.Errno) {
			x, c, e := disposal.Destroy(r, 8, 40)
			c.Files[0] = 99
			if len(x.Certificates) < 3 || x.Certificates[2].Files[0] != 6 {
				t.Error(x.Certificates)
			}
			return x, e
		},
	} {
		r, files := roomy(), []int{12}
		got, e := apply(r, files)
		if e != api.OK || faultOf(got) != api.OK {
			t.Error(i, e)
		}
		scramble(reflect.ValueOf(&got).Elem())
		if !reflect.DeepEqual(r, roomy()) || behind(r) != behind(roomy()) || files[0] != 12 {
			t.Errorf("%d %+v %v", i, r, files)
		}
	}
}
