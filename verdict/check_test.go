package verdict_test

import (
	"math"
	"math/rand"
	"slices"
	"testing"

	"archivum/api"
	"archivum/file"
	"archivum/hold"
	"archivum/office"
	"archivum/plan"
	"archivum/rule"
	"archivum/verdict"
)

// full returns a registry without a fault that has something in all lists, with the files 1, 3, 5 and 7.
func full() api.Registry {
	r := base()
	for i := range 4 {
		r.Files = append(r.Files, api.File{ID: 2*i + 1, Office: 1, Opened: 5, Closed: 10, Class: "1", Title: "Letters"})
	}
	r.Rules = []api.Rule{{ID: 3, Class: "1", Trigger: "closed", Action: api.ActionDestroy, In: always}}
	r.Holds = []api.Hold{{ID: 2, Kind: api.HoldFile, Of: 7, Reason: "Inquiry", In: always}}
	r.Selections = []api.Selection{{Sample: 4, Day: 20, Files: []int{1, 3}}, {Sample: 4, Day: 20, Files: []int{3, 5, 7}}, {Sample: 2, Day: 21}}
	r.Certificates = []api.Certificate{{Number: 1, Day: 30, Files: []int{1}}, {Number: 2, Day: 32, Files: []int{3}}}
	r.Departures = []api.Departure{{File: 7, Day: 11}, {File: 5, Day: 40}}
	return r
}

// P11.1: each fault alone, at its limits.
func TestCheckFaults(t *testing.T) {
	for i, x := range []struct {
		change func(r *api.Registry)
		e      api.Errno
	}{
		{func(r *api.Registry) {}, api.OK},
		{func(r *api.Registry) { *r = api.Registry{} }, api.OK},
		{func(r *api.Registry) { *r = base() }, api.OK},
		{func(r *api.Registry) {
			r.Changed, r.Proposals, r.Approvals = -1, make([]api.Proposal, 2), make([]api.Approval, 2)
		}, api.OK},
		{func(r *api.Registry) { r.Clerks = make([]api.Clerk, 2) }, api.OK},
		{func(r *api.Registry) { r.Certificates[0].Proposal, r.Certificates[1].Before = -1, "?" }, api.OK},
		{func(r *api.Registry) { r.Offices[0].Next = []int{2, 2} }, api.ErrTwice},
		{func(r *api.Registry) { r.Offices = make([]api.Office, api.MaxOffices+1) }, api.ErrTooLarge},
		{func(r *api.Registry) { r.Plans[1].In.From++ }, api.ErrGap},
		{func(r *api.Registry) { r.Files[1].Class = "4" }, api.ErrNoPlan},
		{func(r *api.Registry) { r.Files[1].ID = 1 }, api.ErrOrder},
		{func(r *api.Registry) { r.Rules[0].Class = "x" }, api.ErrSyntax},
		{func(r *api.Registry) { r.Holds[0].Of = 0 }, api.ErrArg},
		{func(r *api.Registry) { r.Selections[1].Sample = 0 }, api.ErrRange},
		{func(r *api.Registry) { r.Selections[1].Sample = 1 }, api.OK},
		{func(r *api.Registry) { r.Selections[1].Sample = api.MaxID }, api.OK},
		{func(r *api.Registry) { r.Selections[1].Sample = api.MaxID + 1 }, api.ErrRange},
		{func(r *api.Registry) { r.Selections[0].Day = -1 }, api.ErrRange},
		{func(r *api.Registry) { r.Selections[0].Day = 0 }, api.OK},
		{func(r *api.Registry) { r.Selections[2].Day = api.MaxDay }, api.OK},
		{func(r *api.Registry) { r.Selections[2].Day = api.MaxDay + 1 }, api.ErrRange},
		{func(r *api.Registry) { r.Selections[2].Day = math.MaxInt }, api.ErrRange},
		{func(r *api.Registry) { r.Selections[1].Files[2] = 6 }, api.ErrNotFound},
		{func(r *api.Registry) { r.Selections[1].Files[2] = 5 }, api.ErrOrder},
		{func(r *api.Registry) { r.Selections[1].Files[2] = 3 }, api.ErrOrder},
		{func(r *api.Registry) { r.Selections[1].Day = 19 }, api.ErrOrder},
		{func(r *api.Registry) { r.Selections[2].Day = 19 }, api.ErrOrder},
		{func(r *api.Registry) { r.Selections[2].Files = []int{1, 3, 5, 7} }, api.OK},
		{func(r *api.Registry) { r.Selections[0].Files = nil }, api.OK},
		{func(r *api.Registry) { r.Certificates[0].Number = 0 }, api.ErrRange},
		{func(r *api.Registry) { r.Certificates[0].Number = 2 }, api.OK},
		{func(r *api.Registry) { r.Certificates[0].Number = api.MaxID }, api.OK},
		{func(r *api.Registry) { r.Certificates[0].Number = api.MaxID + 1 }, api.ErrRange},
		{func(r *api.Registry) { r.Certificates[0].Day = math.MinInt }, api.ErrRange},
		{func(r *api.Registry) { r.Certificates[0].Files = []int{2} }, api.ErrNotFound},
		{func(r *api.Registry) { r.Certificates[0].Files = []int{1, 1} }, api.ErrOrder},
		{func(r *api.Registry) { r.Certificates[0].Files = nil }, api.OK},
		{func(r *api.Registry) { r.Certificates[1].Day = 30 }, api.OK},
		{func(r *api.Registry) { r.Certificates[1].Day = 29 }, api.ErrOrder},
		{func(r *api.Registry) { r.Certificates[1].Files = []int{1} }, api.ErrTwice},
		{func(r *api.Registry) { r.Certificates[1].Files = []int{1, 3} }, api.ErrTwice},
		{func(r *api.Registry) { r.Certificates[1].Files = []int{3, 5} }, api.ErrTwice},
		{func(r *api.Registry) { r.Departures[0].File = 2 }, api.ErrNotFound},
		{func(r *api.Registry) { r.Departures[0].File = 0 }, api.ErrNotFound},
		{func(r *api.Registry) { r.Departures[0].Day = -1 }, api.ErrRange},
		{func(r *api.Registry) { r.Departures[1].Day = api.MaxDay }, api.OK},
		{func(r *api.Registry) { r.Departures[1].Day = api.Forever }, api.ErrRange},
		{func(r *api.Registry) { r.Departures[1].Day = 11 }, api.OK},
		{func(r *api.Registry) { r.Departures[1].Day = 10 }, api.ErrOrder},
		{func(r *api.Registry) { r.Departures[1].File = 7 }, api.ErrTwice},
		{func(r *api.Registry) { r.Departures[0].File = 3 }, api.ErrTwice},
		{func(r *api.Registry) { r.Departures[1].File = 1 }, api.ErrTwice},
		{func(r *api.Registry) { r.Selections = make([]api.Selection, 1025) }, api.ErrTooLarge},
		{func(r *api.Registry) { r.Certificates = make([]api.Certificate, 1025) }, api.ErrTooLarge},
		{func(r *api.Registry) { r.Departures = make([]api.Departure, 1025) }, api.ErrTooLarge},
		{func(r *api.Registry) {
			r.Selections = slices.Repeat([]api.Selection{{Sample: 1, Files: []int{1}}}, 1024)
		}, api.OK},
		{func(r *api.Registry) { r.Certificates = slices.Repeat([]api.Certificate{{Number: 1}}, 1024) }, api.OK},
		{func(r *api.Registry) { r.Departures = slices.Repeat([]api.Departure{{File: 7}}, 1024) }, api.ErrTwice},
	} {
		r := full()
		x.change(&r)
		if e := verdict.Check(r); e != x.e {
			t.Error(i, e, x.e)
		}
	}
}

// P11.1: of several faults the one of the list that is named first counts.
func TestCheckOrderOfLists(t *testing.T) {
	faults := []struct {
		change func(r *api.Registry)
		e      api.Errno
	}{
		{func(r *api.Registry) { r.Offices[2].Name = "" }, api.ErrName},
		{func(r *api.Registry) { r.Plans[1].In.From++ }, api.ErrGap},
		{func(r *api.Registry) { r.Files[1].Class = "4" }, api.ErrNoPlan},
		{func(r *api.Registry) { r.Rules[0].Class = "x" }, api.ErrSyntax},
		{func(r *api.Registry) { r.Holds[0].Of = 0 }, api.ErrArg},
		{func(r *api.Registry) { r.Selections[1].Files[0] = 2 }, api.ErrNotFound},
		{func(r *api.Registry) { r.Certificates[0].Number = 0 }, api.ErrRange},
		{func(r *api.Registry) { r.Departures[1].File = 7 }, api.ErrTwice},
	}
	for set := range 1 << len(faults) {
		r := full()
		want := api.OK
		for k := len(faults) - 1; k >= 0; k-- {
			if set>>k&1 == 1 {
				faults[k].change(&r)
				want = faults[k].e
			}
		}
		if e := verdict.Check(r); e != want {
			t.Errorf("%b %v %v", set, e, want)
		}
	}
}

// P11.1: of one element the first row counts, of a list the first element, and ahead of all the number of elements.
func TestCheckOrderOfRows(t *testing.T) {
	faults := []struct {
		change func(c *api.Certificate)
		e      api.Errno
	}{
		{func(c *api.Certificate) { c.Number = -1 }, api.ErrRange},
		{func(c *api.Certificate) { c.Files = append([]int{4}, c.Files...) }, api.ErrNotFound},
		{func(c *api.Certificate) { c.Day = 29 }, api.ErrOrder},
		{func(c *api.Certificate) { c.Files = append(c.Files, 1) }, api.ErrOrder},
		{func(c *api.Certificate) { c.Files = append([]int{1}, c.Files...) }, api.ErrTwice},
	}
	for set := range 1 << len(faults) {
		r := full()
		want := api.OK
		for k := len(faults) - 1; k >= 0; k-- {
			if set>>k&1 == 1 {
				faults[k].change(&r.Certificates[1])
				want = faults[k].e
			}
		}
		if e := verdict.Check(r); e != want {
			t.Errorf("%b %v %v", set, e, want)
		}
		r.Certificates[0].Files = []int{8}
		if e := verdict.Check(r); e != api.ErrNotFound {
			t.Errorf("%b %v", set, e)
		}
		r.Certificates = append(r.Certificates, make([]api.Certificate, 1023)...)
		if e := verdict.Check(r); e != api.ErrTooLarge {
			t.Errorf("%b %v", set, e)
		}
	}
}

// element is an element of one of the last three lists.
type element struct {
	number, day int
	files       []int
}

// faultOf is the first fault of a registry by its definition.
func faultOf(r api.Registry) api.Errno {
	_, e := office.Check(r.Offices)
	_, f := plan.Check(r.Plans)
	_, g := file.Check(r.Offices, r.Plans, r.Files)
	_, h := rule.Check(r.Rules)
	_, i := hold.Check(r.Holds)
	for _, e := range []api.Errno{e, f, g, h, i} {
		if e != api.OK {
			return e
		}
	}
	var lists [3][]element
	for _, x := range r.Selections {
		lists[0] = append(lists[0], element{x.Sample, x.Day, x.Files})
	}
	for _, x := range r.Certificates {
		lists[1] = append(lists[1], element{x.Number, x.Day, x.Files})
	}
	for _, x := range r.Departures {
		lists[2] = append(lists[2], element{7, x.Day, []int{x.File}})
	}
	var gone []int
	for k, l := range lists {
		for i, x := range l {
			if e := faultOfElement(r, l, i, gone); e != api.OK {
				return e
			}
			if k > 0 {
				gone = append(gone, x.files...)
			}
		}
	}
	return api.OK
}

// faultOfElement is the first fault of an element of a list, when some files are gone.
func faultOfElement(r api.Registry, l []element, i int, gone []int) api.Errno {
	x := l[i]
	if x.number < 1 || x.number > 1<<30 || x.day < 0 || x.day > 1<<20-1 {
		return api.ErrRange
	}
	for _, id := range x.files {
		if file.Find(r.Files, id) < 0 {
			return api.ErrNotFound
		}
	}
	for k := range x.files {
		if k > 0 && x.files[k] <= x.files[k-1] {
			return api.ErrOrder
		}
	}
	if i > 0 && l[i-1].day > x.day {
		return api.ErrOrder
	}
	for _, id := range x.files {
		if slices.Contains(gone, id) {
			return api.ErrTwice
		}
	}
	return api.OK
}

// spoil changes one part of a registry, mostly to something invalid.
func spoil(rnd *rand.Rand, r *api.Registry) {
	number := pick(rnd, 0, -1, 1, 2, api.MaxID, api.MaxID+1, math.MinInt, math.MaxInt)
	day := pick(rnd, -1, 0, 1, 50, api.MaxDay, api.MaxDay+1, math.MinInt, math.MaxInt)
	files := pick(rnd, nil, []int{1}, []int{1, 3}, []int{3, 1}, []int{1, 1}, []int{0}, []int{2}, []int{1, 3, 5}, []int{3, 99})
	switch k := rnd.Intn(8); {
	case k == 0:
		r.Offices[rnd.Intn(3)].In.From += rnd.Intn(2)
	case k == 1:
		r.Plans[rnd.Intn(3)].Classes[0].Title = pick(rnd, "", "Mills")
	case k == 2 && len(r.Files) > 0:
		r.Files[rnd.Intn(len(r.Files))].Points = pick(rnd, 0, 101)
	case k == 3 && len(r.Rules) > 0:
		r.Rules[rnd.Intn(len(r.Rules))].Years = pick(rnd, 2, -1)
	case k == 4 && len(r.Holds) > 0:
		r.Holds[rnd.Intn(len(r.Holds))].Reason = pick(rnd, "", "Inquiry")
	case k == 5 && len(r.Selections) > 0:
		x := &r.Selections[rnd.Intn(len(r.Selections))]
		*x = pick(rnd, api.Selection{Sample: number, Day: x.Day, Files: x.Files}, api.Selection{Sample: x.Sample, Day: day, Files: x.Files}, api.Selection{Sample: x.Sample, Day: x.Day, Files: files})
	case k == 6 && len(r.Certificates) > 0:
		x := &r.Certificates[rnd.Intn(len(r.Certificates))]
		*x = pick(rnd, api.Certificate{Number: number, Day: x.Day, Files: x.Files}, api.Certificate{Number: x.Number, Day: day, Files: x.Files}, api.Certificate{Number: x.Number, Day: x.Day, Files: files})
	case k == 7 && len(r.Departures) > 0:
		x := &r.Departures[rnd.Intn(len(r.Departures))]
		*x = pick(rnd, api.Departure{File: x.File, Day: day}, api.Departure{File: pick(rnd, 0, 1, 2, 3, 5), Day: x.Day})
	}
}

// P11.1: many registries, with and without faults; a registry with a fault has no verdicts.
func TestCheckMany(t *testing.T) {
	rnd := rand.New(rand.NewSource(8))
	seen := map[api.Errno]int{}
	for range 10000 {
		r := some(rnd)
		for range rnd.Intn(4) {
			spoil(rnd, &r)
		}
		want := faultOf(r)
		seen[want]++
		if e := verdict.Check(r); e != want {
			t.Fatalf("%+v %v %v", r, e, want)
		}
		if _, e := verdict.On(r, r.Files[0].ID, 5); (e == api.ErrArg) != (want != api.OK) {
			t.Fatalf("%+v %v %v", r, e, want)
		}
	}
	for _, e := range []api.Errno{api.OK, api.ErrRange, api.ErrNotFound, api.ErrOrder, api.ErrTwice} {
		if seen[e] < 15 {
			t.Error(e, seen[e])
		}
	}
}
