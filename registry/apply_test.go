package registry_test

import (
	"fmt"
	"math"
	"slices"
	"strings"
	"testing"

	"archivum/api"
	"archivum/disposal"
	"archivum/file"
	"archivum/hold"
	"archivum/office"
	"archivum/registry"
	"archivum/rule"
	"archivum/sample"
	"archivum/verdict"
)

var always = api.Span{From: 0, Until: api.Forever}

// event returns an event with the ID 1.
func event(day, kind int, texts []string, numbers ...int) api.Event {
	return api.Event{ID: 1, Day: day, Kind: kind, Numbers: numbers, Texts: texts}
}

func texts(l ...string) []string { return l }

// numbered returns events with the numbers of their places as IDs.
func numbered(l ...api.Event) []api.Event {
	l = slices.Clone(l)
	for i := range l {
		l[i].ID = i + 1
	}
	return l
}

// full returns a registry of day 20 that has something in every list: the file 2 was destroyed, 4 transferred, 6 is to be destroyed, 8 to be transferred, 10 is open, and 12 was selected.
func full() api.Registry {
	r := api.Registry{
		Offices: []api.Office{
			{ID: 1, Name: "Mills", In: api.Span{From: 0, Until: 90}, Next: []int{2}},
			{ID: 2, Name: "Works", In: api.Span{From: 90, Until: api.Forever}},
		},
		Plans: []api.Plan{
			{Version: 1, In: api.Span{From: 0, Until: 10}, Classes: []api.Class{{Code: "1", Title: "Mills"}, {Code: "2", Title: "Weirs"}}},
			{Version: 2, In: api.Span{From: 10, Until: api.Forever}, Classes: []api.Class{{Code: "1", Title: "Mills"}, {Code: "3", Title: "Water"}}, Moved: []api.Moved{{From: "2", To: "3"}}},
		},
		Rules: []api.Rule{
			{ID: 1, Class: "1", Trigger: "closed", Action: api.ActionDestroy, In: always},
			{ID: 2, Class: "3", Trigger: "closed", Action: api.ActionTransfer, In: always},
		},
		Holds: []api.Hold{{ID: 1, Kind: api.HoldFile, Of: 12, Reason: "Inquiry", In: api.Span{From: 5, Until: 40}}},
		Clerks: []api.Clerk{
			{ID: 1, Role: api.RoleManager, Name: "Ada", In: always},
			{ID: 2, Role: api.RoleAuditor, Name: "Ben", In: always},
			{ID: 3, Role: api.RoleArchivist, Name: "Cleo", In: always},
		},
		Selections: []api.Selection{{Sample: 1, Day: 15, Files: []int{12}}},
		Changed:    20,
	}
	for id := 2; id <= 12; id += 2 {
		f := api.File{ID: id, Office: 1, Opened: 5, Closed: 8, Class: "1", Title: "Letters", Points: id}
		if id == 4 || id == 8 {
			f.Class = "2"
		}
		if id == 10 {
			f.Closed = api.Forever
			f.Notes = []api.Note{{Name: "paid", Day: api.Dating{First: 3, Last: 6}, Recorded: 7}}
		}
		r.Files = append(r.Files, f)
	}
	r = must(disposal.Propose(r, api.Proposal{ID: 1, Day: 16, Clerk: 1, Files: []int{2}, Withdrawn: api.Forever}))
	r = must(disposal.Approve(r, api.Approval{Proposal: 1, Day: 16, Clerk: 2}))
	r = must(disposal.Approve(r, api.Approval{Proposal: 1, Day: 17, Clerk: 3}))
	r, _, e := disposal.Destroy(r, 1, 18)
	r = must(r, e)
	r.Departures = []api.Departure{{File: 4, Day: 19}}
	r = must(disposal.Propose(r, api.Proposal{ID: 3, Day: 20, Clerk: 1, Files: []int{6}, Withdrawn: api.Forever}))
	return must(disposal.Approve(r, api.Approval{Proposal: 3, Day: 20, Clerk: 2}))
}

func must(r api.Registry, e api.Errno) api.Registry {
	if e != api.OK {
		panic(fmt.Sprint("no registry: ", e))
	}
	return r
}

// approved returns the full registry with everything that the proposal 3 needs.
func approved() api.Registry {
	return must(disposal.Approve(full(), api.Approval{Proposal: 3, Day: 20, Clerk: 3}))
}

func isSame(a, b api.Registry) bool { return fmt.Sprintf("%+v", a) == fmt.Sprintf("%+v", b) }

// known is an event that the registry of day 20 admits, and what it does.
type known struct {
	e      api.Event
	change func(r *api.Registry)
}

func fileOf(r *api.Registry, id int) *api.File { return &r.Files[file.Find(r.Files, id)] }

// all returns events of all kinds, each one admitted by the registry that approved returns.
func all() []known {
	return []known{
		{event(30, 1, texts("Roads"), 7, 30, 60), func(r *api.Registry) {
			r.Offices = append(r.Offices, api.Office{ID: 7, Name: "Roads", In: api.Span{From: 30, Until: 60}})
		}},
		{event(30, 2, nil, 2, 95), func(r *api.Registry) { r.Offices[1].In.Until = 95 }},
		{event(30, 2, nil, 1, 90, 2), func(r *api.Registry) {}},
		{event(30, 3, texts("1", "Mills", "3", "Water", "3.1", "Weirs", "3", "3.1"), 50, 70, 3, 1), func(r *api.Registry) {
			r.Plans[1].In.Until = 50
			r.Plans = append(r.Plans, api.Plan{
				Version: 3, In: api.Span{From: 50, Until: 70},
				Classes: []api.Class{{Code: "1", Title: "Mills"}, {Code: "3", Title: "Water"}, {Code: "3.1", Title: "Weirs"}},
				Moved:   []api.Moved{{From: "3", To: "3.1"}},
			})
		}},
		{event(30, 4, texts("3", "Rivers"), 14, 1, 40), func(r *api.Registry) {
			r.Files = append(r.Files, api.File{ID: 14, Office: 1, Opened: 30, Closed: api.Forever, Class: "3", Title: "Rivers", Points: 40})
		}},
		{event(30, 5, texts("paid"), 10, 2, 9), func(r *api.Registry) {
			f := fileOf(r, 10)
			f.Notes = append(f.Notes, api.Note{Name: "paid", Day: api.Dating{First: 2, Last: 9}, Recorded: 30})
		}},
		{event(30, 6, nil, 10), func(r *api.Registry) { fileOf(r, 10).Closed = 30 }},
		{event(30, 7, texts("1.1", "paid"), 4, 12, 1, 2, 30, 40), func(r *api.Registry) {
			r.Rules = append(r.Rules, api.Rule{ID: 4, Class: "1.1", Trigger: "paid", Years: 12, YearEnd: true, Action: 2, In: api.Span{From: 30, Until: 40}})
		}},
		{event(30, 7, texts("1", "opened"), 4, 0, 0, 3, 31, api.Forever), func(r *api.Registry) {
			r.Rules = append(r.Rules, api.Rule{ID: 4, Class: "1", Trigger: "opened", Action: 3, In: api.Span{From: 31, Until: api.Forever}})
		}},
		{event(30, 8, nil, 2, 30), func(r *api.Registry) { r.Rules[1].In.Until = 30 }},
		{event(30, 9, texts("", "Claim"), 2, 2, 1, 30, 35), func(r *api.Registry) {
			r.Holds = append(r.Holds, api.Hold{ID: 2, Kind: api.HoldOffice, Of: 1, Reason: "Claim", In: api.Span{From: 30, Until: 35}})
		}},
		{event(30, 9, texts("1.2", "Claim"), 2, 3, 0, 32, 35), func(r *api.Registry) {
			r.Holds = append(r.Holds, api.Hold{ID: 2, Kind: api.HoldClass, Class: "1.2", Reason: "Claim", In: api.Span{From: 32, Until: 35}})
		}},
		{event(30, 10, nil, 1, 30), func(r *api.Registry) { r.Holds[0].In.Until = 30 }},
		{event(30, 11, texts("Dan"), 9, 3, 30, 31), func(r *api.Registry) {
			r.Clerks = append(r.Clerks, api.Clerk{ID: 9, Role: api.RoleAuditor, Name: "Dan", In: api.Span{From: 30, Until: 31}})
		}},
		{event(30, 12, texts("1", ""), 8, 1, 2, 1), func(r *api.Registry) {
			r.Selections = append(r.Selections, api.Selection{Sample: 8, Day: 30, Files: []int{12}})
		}},
		{event(30, 12, texts("3", "L"), 1, 3, 0, 0), func(r *api.Registry) {
			r.Selections = append(r.Selections, api.Selection{Sample: 1, Day: 30, Files: []int{8}})
		}},
		{event(30, 12, texts("2", "seed"), 8, 2, 5, 0), func(r *api.Registry) {
			r.Selections = append(r.Selections, api.Selection{Sample: 8, Day: 30})
		}},
		{event(30, 13, nil, 5, 2, 8, 12), func(r *api.Registry) {
			r.Proposals = append(r.Proposals, api.Proposal{ID: 5, Day: 30, Clerk: 2, Files: []int{8, 12}, Withdrawn: api.Forever})
		}},
		{event(30, 15, nil, 3), func(r *api.Registry) { r.Proposals[1].Withdrawn = 30 }},
		{event(30, 16, nil, 3), func(r *api.Registry) {
			c := api.Certificate{Number: 2, Proposal: 3, Day: 30, Files: []int{6}, Before: r.Certificates[0].Digest}
			c.Digest, _ = disposal.Digest(c)
			r.Certificates = append(r.Certificates, c)
		}},
		{event(30, 17, nil, 8), func(r *api.Registry) { r.Departures = append(r.Departures, api.Departure{File: 8, Day: 30}) }},
	}
}

// P15.1: each kind of event does what it has to do.
func TestKinds(t *testing.T) {
	for _, x := range all() {
		want := approved()
		x.change(&want)
		want.Changed = 30
		if got, e := registry.Apply(approved(), x.e); e != api.OK || !isSame(got, want) {
			t.Errorf("%+v %v %+v", x.e, e, got)
		}
	}
	want := full()
	want.Approvals = append(want.Approvals, api.Approval{Proposal: 3, Day: 31, Clerk: 3})
	want.Changed = 31
	if got, e := registry.Apply(full(), event(31, 14, nil, 3, 3)); e != api.OK || !isSame(got, want) {
		t.Errorf("%v %+v", e, got)
	}
	want = api.Registry{Plans: []api.Plan{{Version: 1, In: api.Span{From: 7, Until: 9}}}, Changed: 6}
	if got, e := registry.Apply(registry.New(), event(6, 3, nil, 7, 9, 0, 0)); e != api.OK || !isSame(got, want) {
		t.Errorf("%v %+v", e, got)
	}
}

// P15.1: the bounds of what events have, but for Numbers and Texts.
func TestHead(t *testing.T) {
	for i, x := range []struct {
		id, day, kind int
		e             api.Errno
	}{
		{1, 20, 6, api.OK},
		{api.MaxID, 20, 6, api.OK},
		{0, 20, 6, api.ErrArg},
		{-1, 20, 6, api.ErrArg},
		{api.MaxID + 1, 20, 6, api.ErrArg},
		{math.MinInt, 20, 6, api.ErrArg},
		{math.MaxInt, 20, 6, api.ErrArg},
		{1, 19, 6, api.ErrOrder},
		{1, 0, 6, api.ErrOrder},
		{1, -1, 6, api.ErrArg},
		{1, math.MinInt, 6, api.ErrArg},
		{1, api.MaxDay, 6, api.OK},
		{1, api.MaxDay + 1, 6, api.ErrArg},
		{1, math.MaxInt, 6, api.ErrArg},
		{1, 20, 0, api.ErrArg},
		{1, 20, -6, api.ErrArg},
		{1, 20, 18, api.ErrArg},
		{1, 20, 19, api.ErrArg},
		{1, 20, 20, api.ErrArg},
		{1, 20, 58, api.ErrArg},
		{1, 20, math.MinInt, api.ErrArg},
		{1, 20, math.MaxInt, api.ErrArg},
	} {
		ev := event(x.day, x.kind, nil, 10)
		ev.ID = x.id
		want := api.Registry{}
		if x.e == api.OK {
			want = full()
			fileOf(&want, 10).Closed = x.day
			want.Changed = x.day
		}
		if got, e := registry.Apply(full(), ev); e != x.e || !isSame(got, want) {
			t.Error(i, e)
		}
	}
}

// counts says how many Numbers and Texts events of a kind have; more says that more Numbers can follow.
var counts = [18]struct {
	numbers, texts int
	more           bool
}{
	1: {3, 1, false}, 2: {2, 0, true}, 4: {3, 2, false}, 5: {3, 1, false}, 6: {1, 0, false}, 7: {6, 2, false}, 8: {2, 0, false},
	9: {5, 2, false}, 10: {2, 0, false}, 11: {4, 1, false}, 12: {4, 2, false}, 13: {2, 0, true}, 14: {2, 0, false}, 15: {1, 0, false},
	16: {1, 0, false}, 17: {1, 0, false},
}

// hasForm returns whether an event has its form, by the definition.
func hasForm(e api.Event) bool {
	if e.ID < 1 || e.ID > 1<<30 || e.Day < 0 || e.Day >= 1<<20 || e.Kind < 1 || e.Kind > 17 {
		return false
	}
	if e.Kind == 3 {
		for n := range len(e.Texts) + 1 {
			for m := range len(e.Texts) + 1 {
				if len(e.Numbers) == 4 && e.Numbers[2] == n && e.Numbers[3] == m && len(e.Texts) == 2*n+2*m {
					return true
				}
			}
		}
		return false
	}
	c := counts[e.Kind]
	if len(e.Texts) != c.texts || len(e.Numbers) < c.numbers || len(e.Numbers) > c.numbers && !c.more {
		return false
	}
	return e.Kind != 7 || e.Numbers[2] == 0 || e.Numbers[2] == 1
}

// P15.1: events with less or more Numbers or Texts than they need.
func TestForm(t *testing.T) {
	known := append(all(), known{e: event(30, 14, nil, 3, 3)})
	for _, x := range known {
		numbers, strs := x.e.Numbers, x.e.Texts
		for _, e := range []api.Event{
			event(30, x.e.Kind, strs),
			event(30, x.e.Kind, strs, numbers[1:]...),
			event(30, x.e.Kind, strs, numbers[:len(numbers)-1]...),
			event(30, x.e.Kind, strs, append(slices.Clone(numbers), 77)...),
			event(30, x.e.Kind, strs, append(slices.Clone(numbers), 77, 78)...),
			event(30, x.e.Kind, strs, append(slices.Clone(numbers), numbers...)...),
			event(30, x.e.Kind, append(slices.Clone(strs), "x"), numbers...),
			event(30, x.e.Kind, append(slices.Clone(strs), "1", "x"), numbers...),
			event(30, x.e.Kind, append(slices.Clone(strs), ""), numbers...),
			event(30, x.e.Kind, nil, numbers...),
			event(30, x.e.Kind, strs[:max(len(strs)-1, 0)], numbers...),
			event(30, x.e.Kind, make([]string, 256), numbers...),
			event(30, x.e.Kind, strs, make([]int, 1024)...),
		} {
			_, want := applying(full(), e)
			got, fault := registry.Apply(full(), e)
			if fault != want || !hasForm(e) && fault != api.ErrArg || fault != api.OK && !isSame(got, api.Registry{}) {
				t.Error(e, fault, want)
			}
		}
	}
}

// P15.1: how many classes and moved ones a plan version has.
func TestFormOfPlans(t *testing.T) {
	l := texts("1", "Mills", "2", "Weirs", "3", "1")
	for i, x := range []struct {
		texts []string
		n, m  int
		e     api.Errno
	}{
		{l, 2, 1, api.OK},
		{l, 3, 0, api.OK},
		{l, 2, 0, api.ErrArg},
		{l, 1, 1, api.ErrArg},
		{l, 2, 2, api.ErrArg},
		{l, 4, -1, api.ErrArg},
		{l, -1, 4, api.ErrArg},
		{l, 6, -3, api.ErrArg},
		{l[:5], 2, 1, api.ErrArg},
		{l[:5], 2, 0, api.ErrArg},
		{l[:5], 1, 1, api.ErrArg},
		{l[:1], 0, 0, api.ErrArg},
		{l[:4], 2, 0, api.OK},
		{l, 1, 2, api.ErrNotFound},
		{l, math.MaxInt, math.MinInt + 4, api.ErrArg},
		{l, 1<<62 + 2, 1<<62 + 1, api.ErrArg},
		{l, math.MinInt, math.MinInt + 3, api.ErrArg},
		{nil, 0, 0, api.ErrNoPlan},
		{nil, 1 << 62, 1 << 62, api.ErrArg},
		{nil, math.MinInt, math.MinInt, api.ErrArg},
		{nil, math.MinInt, 0, api.ErrArg},
		{nil, 1, -1, api.ErrArg},
	} {
		r := api.Registry{Plans: []api.Plan{{Version: 1, In: always, Classes: []api.Class{{Code: "1", Title: "A"}, {Code: "3", Title: "B"}}}}}
		if x.m == 0 {
			r.Plans[0].Classes = r.Plans[0].Classes[:1]
		}
		e := event(5, 3, x.texts, 9, 20, x.n, x.m)
		if _, got := registry.Apply(r, e); got != x.e || hasForm(e) != (x.e != api.ErrArg) {
			t.Error(i, got, x.e)
		}
	}
}

// P15.1: Numbers and Texts that have their form, but are wrong.
func TestWrong(t *testing.T) {
	long := strings.Repeat("a", 65)
	for i, x := range []struct {
		e    api.Event
		want api.Errno
	}{
		{event(30, 1, texts("Roads"), 2, 30, 60), api.ErrOrder},
		{event(30, 1, texts("Roads"), api.MaxID+1, 30, 60), api.ErrRange},
		{event(30, 1, texts("Roads"), 7, 30, 30), api.ErrRange},
		{event(30, 1, texts("Roads"), 7, 29, 60), api.ErrOrder},
		{event(30, 1, texts("Roads"), 7, math.MinInt, 60), api.ErrOrder},
		{event(30, 1, texts(""), 7, 30, 60), api.ErrName},
		{event(30, 1, texts(long), 7, 30, 60), api.ErrName},
		{event(30, 2, nil, 3, 95), api.ErrNotFound},
		{event(30, 2, nil, 3, 29), api.ErrOrder},
		{event(30, 2, nil, 2, 90), api.ErrRange},
		{event(30, 2, nil, 2, 95, 2), api.ErrMismatch},
		{event(30, 2, nil, 1, 90, 2, 2), api.ErrTwice},
		{event(30, 2, nil, 1, 90, 3), api.ErrNotFound},
		{event(30, 2, nil, 1, 89, 2), api.ErrMismatch},
		{event(30, 2, nil, 1, 30), api.OK},
		{event(30, 3, texts("1", "Mills"), 50, 70, 1, 0), api.ErrNoPlan},
		{event(30, 3, texts("1", "Mills", "3", "Water"), 29, 70, 2, 0), api.ErrOrder},
		{event(30, 3, texts("1", "Mills", "3", "Water"), 30, 70, 2, 0), api.OK},
		{event(30, 3, texts("1", "Mills", "3", "Water"), 30, 30, 2, 0), api.ErrRange},
		{event(30, 3, texts("1", "Mills", "3", "Water"), api.Forever, api.Forever, 2, 0), api.ErrRange},
		{event(30, 3, texts("1", "Mills", "3", "Water"), api.Forever+1, api.Forever+2, 2, 0), api.ErrGap},
		{event(30, 3, texts("1", ""), 50, 70, 1, 0), api.ErrName},
		{event(30, 3, texts("1", "Mills", "3", "Water", "4", "3"), 50, 70, 2, 1), api.ErrNotFound},
		{event(30, 4, texts("3", "Rivers"), 12, 1, 40), api.ErrOrder},
		{event(30, 4, texts("2", "Rivers"), 14, 1, 40), api.ErrNoPlan},
		{event(30, 4, texts("3", "Rivers"), 14, 2, 40), api.ErrNotFound},
		{event(30, 4, texts("3", "Rivers"), 14, 1, 101), api.ErrRange},
		{event(30, 4, texts("3", "Rivers "), 14, 1, 100), api.ErrName},
		{event(90, 4, texts("3", "Rivers"), 14, 1, 40), api.ErrNotFound},
		{event(90, 4, texts("3", "Rivers"), 14, 2, 40), api.OK},
		{event(30, 5, texts("paid"), 9, 2, 9), api.ErrNotFound},
		{event(30, 5, texts("opened"), 10, 2, 9), api.ErrName},
		{event(30, 5, texts("paid"), 10, 9, 2), api.ErrRange},
		{event(30, 5, texts("paid"), 10, 2, api.Forever), api.ErrRange},
		{event(30, 5, texts("paid"), 2, 900, 900), api.OK},
		{event(30, 6, nil, 12), api.ErrState},
		{event(30, 6, nil, 0), api.ErrNotFound},
		{event(30, 7, texts("1", "paid"), 2, 12, 1, 2, 30, 40), api.ErrOrder},
		{event(30, 7, texts("1", "paid"), 4, 12, 2, 2, 30, 40), api.ErrArg},
		{event(30, 7, texts("1", "paid"), 4, 12, -1, 2, 30, 40), api.ErrArg},
		{event(30, 7, texts("1", "paid"), 4, 201, 1, 2, 30, 40), api.ErrRange},
		{event(30, 7, texts("1", "paid"), 4, 12, 1, 4, 30, 40), api.ErrRange},
		{event(30, 7, texts("1", "paid"), 4, 12, 1, 2, 29, 40), api.ErrOrder},
		{event(30, 7, texts("1", "paid"), 4, 12, 1, 3, 30, 40), api.ErrArg},
		{event(30, 7, texts("01", "paid"), 4, 12, 1, 2, 30, 40), api.ErrSyntax},
		{event(30, 7, texts("1", `"`), 4, 12, 1, 2, 30, 40), api.ErrName},
		{event(30, 8, nil, 3, 40), api.ErrNotFound},
		{event(30, 8, nil, 2, 29), api.ErrOrder},
		{event(30, 8, nil, 2, api.Forever+1), api.ErrRange},
		{event(30, 8, nil, 2, api.Forever), api.OK},
		{event(30, 9, texts("", "Claim"), 1, 2, 1, 30, 35), api.ErrOrder},
		{event(30, 9, texts("", "Claim"), 2, 2, 1, 29, 35), api.ErrOrder},
		{event(30, 9, texts("", "Claim"), 2, 4, 1, 30, 35), api.ErrRange},
		{event(30, 9, texts("1", "Claim"), 2, 2, 1, 30, 35), api.ErrArg},
		{event(30, 9, texts("", "Claim"), 2, 3, 0, 30, 35), api.ErrSyntax},
		{event(30, 9, texts("", ""), 2, 1, 1, 30, 35), api.ErrName},
		{event(30, 9, texts("", "Claim"), 2, 1, 999, 30, 35), api.OK},
		{event(30, 10, nil, 2, 35), api.ErrNotFound},
		{event(30, 10, nil, 1, 41), api.ErrRange},
		{event(30, 10, nil, 1, 29), api.ErrOrder},
		{event(30, 10, nil, 1, 40), api.OK},
		{event(30, 11, texts("Dan"), 3, 3, 30, 31), api.ErrOrder},
		{event(30, 11, texts("Dan"), 9, 3, 29, 31), api.ErrOrder},
		{event(30, 11, texts("Dan"), 9, 4, 30, 31), api.ErrRange},
		{event(30, 11, texts("Dan"), 9, 3, 30, 30), api.ErrRange},
		{event(30, 11, texts("D\n"), 9, 3, 30, 31), api.ErrName},
		{event(30, 12, texts("1", ""), 0, 1, 2, 1), api.ErrRange},
		{event(30, 12, texts("1", ""), 8, 1, 2, 2), api.ErrRange},
		{event(30, 12, texts("", ""), 8, 1, 2, 1), api.ErrSyntax},
		{event(30, 12, texts("1", "x"), 8, 1, 2, 1), api.ErrArg},
		{event(30, 13, nil, 5, 2), api.ErrEmpty},
		{event(30, 13, nil, 3, 2, 8), api.ErrOrder},
		{event(30, 13, nil, 5, 4, 8), api.ErrNotFound},
		{event(30, 13, nil, 5, 2, 7), api.ErrNotFound},
		{event(30, 13, nil, 5, 2, 12, 8), api.ErrOrder},
		{event(30, 13, nil, 5, 2, 6), api.ErrTwice},
		{event(30, 14, nil, 2, 2), api.ErrNotFound},
		{event(30, 14, nil, 3, 1), api.ErrDenied},
		{event(30, 14, nil, 3, 2), api.ErrTwice},
		{event(30, 14, nil, 3, 4), api.ErrNotFound},
		{event(30, 15, nil, 2), api.ErrNotFound},
		{event(30, 15, nil, 1), api.ErrState},
		{event(20, 15, nil, 3), api.ErrState},
		{event(30, 16, nil, 2), api.ErrNotFound},
		{event(30, 16, nil, 1), api.ErrState},
		{event(30, 16, nil, 3), api.ErrDenied},
		{event(30, 17, nil, 3), api.ErrNotFound},
		{event(30, 17, nil, math.MinInt), api.ErrNotFound},
		{event(30, 17, nil, 2), api.ErrHeld},
		{event(30, 17, nil, 4), api.ErrHeld},
		{event(30, 17, nil, 6), api.ErrHeld},
		{event(30, 17, nil, 10), api.ErrHeld},
		{event(30, 17, nil, 12), api.ErrHeld},
		{event(39, 17, nil, 12), api.ErrHeld},
		{event(40, 17, nil, 12), api.OK},
		{event(20, 17, nil, 8), api.OK},
	} {
		want, e := applying(full(), x.e)
		if e != x.want {
			t.Error(i, e, x.want)
		}
		if got, e := registry.Apply(full(), x.e); e != x.want || !isSame(got, want) {
			t.Error(i, x.e, e, x.want)
		}
	}
}

// P15.1: of several faults the first one of the table counts.
func TestOrderOfFaults(t *testing.T) {
	for i, x := range []struct {
		change func(r *api.Registry)
		e      api.Event
		want   api.Errno
	}{
		{func(r *api.Registry) { r.Changed = -1 }, event(19, 18, nil), api.ErrArg},
		{func(r *api.Registry) { r.Changed = api.MaxDay + 1 }, event(19, 6, nil, 10), api.ErrArg},
		{func(r *api.Registry) { r.Clerks[0].ID = 0 }, event(19, 6, nil, 10), api.ErrArg},
		{func(r *api.Registry) { r.Rules[0].ID = 0 }, event(30, 6, nil, 10), api.ErrArg},
		{func(r *api.Registry) {}, event(19, 6, nil, 10, 10), api.ErrArg},
		{func(r *api.Registry) {}, event(19, 6, nil, 9), api.ErrOrder},
		{func(r *api.Registry) {}, event(19, 1, texts(""), 1, 19, 19), api.ErrOrder},
		{func(r *api.Registry) {}, event(30, 2, nil, 77, 29), api.ErrOrder},
		{func(r *api.Registry) {}, event(30, 3, texts("1", ""), 10, 5, 1, 0), api.ErrOrder},
		{func(r *api.Registry) { r.Plans[1].In.Until = 28 }, event(30, 3, texts("1", ""), 29, 5, 1, 0), api.ErrOrder},
		{func(r *api.Registry) { r.Plans[1].In.Until = 28 }, event(30, 3, texts("1", ""), 30, 5, 1, 0), api.ErrGap},
		{func(r *api.Registry) { r.Plans[1].In.Until = 30 }, event(30, 3, texts("1", ""), 30, 5, 1, 0), api.ErrRange},
		{func(r *api.Registry) { r.Plans[1].In.Until = 30 }, event(30, 3, texts("1", "Mills", "3", "Water"), 30, 50, 2, 0), api.OK},
		{func(r *api.Registry) { r.Plans[1].In.Until = 30 }, event(30, 3, texts("1", "Mills", "3", "Water"), 31, 50, 2, 0), api.ErrGap},
		{func(r *api.Registry) { r.Changed = 0 }, event(10, 3, texts("1", "Mills", "3", "Water"), 10, 50, 2, 0), api.ErrGap},
		{func(r *api.Registry) { r.Changed = 0 }, event(9, 3, texts("1", "Mills", "3", "Water"), 9, 50, 2, 0), api.ErrGap},
		{func(r *api.Registry) { r.Changed = 0 }, event(9, 3, texts("1", "Mills", "3", "Water"), 11, 50, 2, 0), api.OK},
		// a file whose office or class would not be there any more when it was opened
		{func(r *api.Registry) { r.Changed = 0 }, event(4, 2, nil, 1, 4), api.ErrNotFound},
		{func(r *api.Registry) { r.Changed = 0 }, event(4, 2, nil, 1, 6), api.OK},
		{func(r *api.Registry) { r.Changed, r.Files[5].Opened, r.Files[5].Closed = 0, 12, 13 }, event(4, 3, texts("3", "Water"), 11, 50, 1, 0), api.ErrNoPlan},
		{func(r *api.Registry) { r.Changed, r.Files[5].Opened, r.Files[5].Closed = 0, 12, 13 }, event(4, 3, texts("3", "Water", "1", "3"), 11, 50, 1, 1), api.ErrNoPlan},
		{func(r *api.Registry) { r.Changed, r.Files[5].Opened, r.Files[5].Closed = 0, 10, 13 }, event(4, 3, texts("3", "Water", "1", "3"), 11, 50, 1, 1), api.OK},
		// entries on days that are later than the event
		{func(r *api.Registry) { r.Changed = 0 }, event(14, 12, texts("1", ""), 8, 4, 0, 0), api.ErrOrder},
		{func(r *api.Registry) { r.Changed = 0 }, event(15, 12, texts("1", ""), 8, 4, 0, 0), api.OK},
		{func(r *api.Registry) { r.Changed = 0 }, event(18, 17, nil, 8), api.ErrOrder},
		{func(r *api.Registry) { r.Changed = 0 }, event(18, 17, nil, 4), api.ErrOrder},
		{func(r *api.Registry) { r.Changed = 0; r.Departures[0].Day = 20 }, event(20, 17, nil, 4), api.ErrHeld},
		{func(r *api.Registry) { r.Changed = 0 }, event(19, 17, nil, 8), api.OK},
		{func(r *api.Registry) { r.Changed = 0; r.Departures = nil }, event(9, 17, nil, 8), api.ErrHeld},
		{func(r *api.Registry) { r.Changed = 0; r.Departures = nil }, event(10, 17, nil, 8), api.OK},
		{func(r *api.Registry) {
			r.Changed = 0
			r.Selections[0] = api.Selection{Sample: 1, Day: 1, Files: []int{2, 6}}
		}, event(17, 17, nil, 2), api.ErrOrder},
		{func(r *api.Registry) {
			r.Changed, r.Departures = 0, nil
			r.Selections[0] = api.Selection{Sample: 1, Day: 1, Files: []int{2, 6}}
		}, event(17, 17, nil, 2), api.ErrTwice},
		{func(r *api.Registry) { r.Changed = 0 }, event(19, 13, nil, 5, 1, 8), api.ErrOrder},
		{func(r *api.Registry) { r.Changed = 0 }, event(19, 14, nil, 3, 3), api.ErrRange},
		{func(r *api.Registry) { r.Changed = 0 }, event(19, 15, nil, 3), api.ErrRange},
		{func(r *api.Registry) { r.Changed = 0 }, event(17, 16, nil, 3), api.ErrOrder},
		{func(r *api.Registry) {
			r.Changed = 0
			r.Departures = append(r.Departures, api.Departure{File: 6, Day: 50})
		}, event(30, 6, nil, 10), api.OK},
		{func(r *api.Registry) { r.Changed = 0 }, event(4, 6, nil, 10), api.ErrRange},
		{func(r *api.Registry) { r.Changed = 0 }, event(6, 5, texts("paid"), 10, 1, 1), api.ErrOrder},
		{func(r *api.Registry) { r.Changed = 0 }, event(4, 5, texts("paid"), 10, 1, 1), api.ErrRange},
		{func(r *api.Registry) { r.Changed = api.MaxDay }, event(api.MaxDay-1, 6, nil, 10), api.ErrOrder},
		{func(r *api.Registry) { r.Changed = api.MaxDay }, event(api.MaxDay, 6, nil, 10), api.OK},
	} {
		r := full()
		x.change(&r)
		want, e := applying(r, x.e)
		if e != x.want {
			t.Error(i, e, x.want)
		}
		if got, e := registry.Apply(r, x.e); e != x.want || !isSame(got, want) {
			t.Error(i, x.e, e, x.want)
		}
	}
}

// P15.1: lists that are as long as they can be.
func TestLimits(t *testing.T) {
	for i, x := range []struct {
		fill func(r *api.Registry, n int)
		most int
		e    api.Event
		want api.Errno
	}{
		{func(r *api.Registry, n int) {
			for i := range n {
				r.Offices = append(r.Offices, api.Office{ID: i + 1, Name: "Mills", In: always})
			}
		}, api.MaxOffices, event(0, 1, texts("Roads"), 100, 0, 60), api.ErrTooLarge},
		{func(r *api.Registry, n int) {
			for i := range n {
				r.Plans = append(r.Plans, api.Plan{Version: i + 1, In: api.Span{From: i, Until: i + 1}})
			}
			r.Plans[n-1].In.Until = api.Forever
		}, api.MaxPlans, event(0, 3, nil, 16, 60, 0, 0), api.ErrTooLarge},
		{func(r *api.Registry, n int) {
			r.Offices = []api.Office{{ID: 1, Name: "Mills", In: always}}
			r.Plans = []api.Plan{{Version: 1, In: always, Classes: []api.Class{{Code: "1", Title: "Mills"}}}}
			for i := range n {
				r.Files = append(r.Files, api.File{ID: i + 1, Office: 1, Closed: api.Forever, Class: "1", Title: "Letters"})
			}
		}, api.MaxFiles, event(0, 4, texts("1", "Rivers"), 300, 1, 40), api.ErrTooLarge},
		{func(r *api.Registry, n int) {
			r.Offices = []api.Office{{ID: 1, Name: "Mills", In: always}}
			r.Plans = []api.Plan{{Version: 1, In: always, Classes: []api.Class{{Code: "1", Title: "Mills"}}}}
			r.Files = []api.File{{ID: 1, Office: 1, Closed: api.Forever, Class: "1", Title: "Letters"}}
			for range n {
				r.Files[0].Notes = append(r.Files[0].Notes, api.Note{Name: "paid"})
			}
		}, api.MaxNotes, event(0, 5, texts("paid"), 1, 0, 0), api.ErrFull},
		{func(r *api.Registry, n int) {
			for i := range n {
				r.Rules = append(r.Rules, api.Rule{ID: i + 1, Class: "1", Trigger: "paid", Action: 1, In: always})
			}
		}, api.MaxRules, event(0, 7, texts("1", "paid"), 100, 0, 0, 1, 0, 60), api.ErrTooLarge},
		{func(r *api.Registry, n int) {
			for i := range n {
				r.Holds = append(r.Holds, api.Hold{ID: i + 1, Kind: 1, Of: 1, Reason: "Inquiry", In: always})
			}
		}, api.MaxHolds, event(0, 9, texts("", "Inquiry"), 100, 1, 1, 0, 60), api.ErrTooLarge},
		{func(r *api.Registry, n int) {
			for i := range n {
				r.Clerks = append(r.Clerks, api.Clerk{ID: i + 1, Role: 1, Name: "Ada", In: always})
			}
		}, api.MaxClerks, event(0, 11, texts("Ada"), 100, 1, 0, 60), api.ErrTooLarge},
		{func(r *api.Registry, n int) {
			for range n {
				r.Selections = append(r.Selections, api.Selection{Sample: 1})
			}
		}, api.MaxList, event(0, 12, texts("1", ""), 100, 4, 0, 0), api.ErrTooLarge},
	} {
		for n, want := range map[int]api.Errno{x.most - 1: api.OK, x.most: x.want} {
			var r api.Registry
			x.fill(&r, n)
			if got, e := registry.Apply(r, x.e); e != want || (e == api.OK) != (registry.Check(got) == api.OK && !isSame(got, api.Registry{})) {
				t.Error(i, n, e)
			}
		}
	}
}

// P15.1: the faults of registries.
func TestCheck(t *testing.T) {
	for i, x := range []struct {
		change func(r *api.Registry)
		e      api.Errno
	}{
		{func(r *api.Registry) {}, api.OK},
		{func(r *api.Registry) { *r = registry.New() }, api.OK},
		{func(r *api.Registry) { r.Changed = 0 }, api.OK},
		{func(r *api.Registry) { r.Changed = -1 }, api.ErrRange},
		{func(r *api.Registry) { r.Changed = api.MaxDay }, api.OK},
		{func(r *api.Registry) { r.Changed = api.MaxDay + 1 }, api.ErrRange},
		{func(r *api.Registry) { r.Changed = math.MinInt }, api.ErrRange},
		{func(r *api.Registry) { r.Changed = math.MaxInt }, api.ErrRange},
		{func(r *api.Registry) { r.Offices[0].Name, r.Changed = "", -1 }, api.ErrName},
		{func(r *api.Registry) { r.Plans[1].In.From = 11 }, api.ErrGap},
		{func(r *api.Registry) { r.Files[0].Class = "3" }, api.ErrNoPlan},
		{func(r *api.Registry) { r.Rules[1].ID = 1 }, api.ErrOrder},
		{func(r *api.Registry) { r.Holds[0].Class = "1" }, api.ErrArg},
		{func(r *api.Registry) { r.Selections[0].Files[0] = 13 }, api.ErrNotFound},
		{func(r *api.Registry) { r.Departures[0].File = 2 }, api.ErrTwice},
		{func(r *api.Registry) { r.Clerks[0].Role = 0 }, api.ErrRange},
		{func(r *api.Registry) { r.Proposals[1].Files = nil }, api.ErrEmpty},
		{func(r *api.Registry) { r.Approvals[0].Clerk = 1 }, api.ErrDenied},
		{func(r *api.Registry) { r.Certificates[0].Digest, r.Changed = "", -1 }, api.ErrProof},
		{func(r *api.Registry) { r.Certificates[0].Files = []int{6}; r.Changed = -1 }, api.ErrMismatch},
	} {
		r := full()
		x.change(&r)
		if e := registry.Check(r); e != x.e || e != faultOf(r) {
			t.Error(i, e, x.e)
		}
	}
	if r := registry.New(); !isSame(r, api.Registry{}) {
		t.Errorf("%+v", r)
	}
}

// faultOf is the first fault of a registry by its definition.
func faultOf(r api.Registry) api.Errno {
	e := disposal.Check(r)
	if e == api.OK && (r.Changed < 0 || r.Changed > api.MaxDay) {
		e = api.ErrRange
	}
	return e
}

// applying returns what Apply has to return, by the table of the chapter.
func applying(r api.Registry, e api.Event) (api.Registry, api.Errno) {
	if faultOf(r) != api.OK || !hasForm(e) {
		return api.Registry{}, api.ErrArg
	}
	// the index of the number that must not be less than the Day
	at := map[int]int{1: 1, 3: 0, 7: 4, 9: 3, 11: 2, 2: 1, 8: 1, 10: 1}
	if i, ok := at[e.Kind]; e.Day < r.Changed || ok && e.Numbers[i] < e.Day {
		return api.Registry{}, api.ErrOrder
	}
	next, fault := r, api.OK
	if e.Kind <= 3 || e.Kind == 7 || e.Kind == 9 || e.Kind == 11 {
		next, fault = extending(r, e)
	} else {
		next, fault = entering(r, e)
	}
	next.Changed = e.Day
	if fault == api.OK {
		fault = faultOf(next)
	}
	if fault != api.OK {
		return api.Registry{}, fault
	}
	return next, api.OK
}

// extending returns the registry behind an event about something that is in force in a span.
func extending(r api.Registry, e api.Event) (api.Registry, api.Errno) {
	n, s := e.Numbers, e.Texts
	fault := api.OK
	switch e.Kind {
	case 1:
		r.Offices = append(slices.Clone(r.Offices), api.Office{ID: n[0], In: api.Span{From: n[1], Until: n[2]}, Name: s[0]})
	case 2:
		r.Offices, fault = office.End(r.Offices, n[0], n[1], n[2:])
	case 3:
		p := api.Plan{Version: 1 + len(r.Plans), In: api.Span{From: n[0], Until: n[1]}}
		for i := range n[2] {
			p.Classes = append(p.Classes, api.Class{Code: s[2*i], Title: s[2*i+1]})
		}
		for i := range n[3] {
			p.Moved = append(p.Moved, api.Moved{From: s[2*n[2]+2*i], To: s[2*n[2]+2*i+1]})
		}
		r.Plans = slices.Clone(r.Plans)
		if last := len(r.Plans) - 1; last >= 0 {
			if in := r.Plans[last].In; n[0] <= in.From || n[0] > in.Until {
				return r, api.ErrGap
			}
			r.Plans[last].In.Until = n[0]
		}
		r.Plans = append(r.Plans, p)
	case 7:
		r.Rules = append(slices.Clone(r.Rules), api.Rule{ID: n[0], Class: s[0], Trigger: s[1], Years: n[1], YearEnd: n[2] > 0, Action: n[3], In: api.Span{From: n[4], Until: n[5]}})
	case 9:
		r.Holds = append(slices.Clone(r.Holds), api.Hold{ID: n[0], Kind: n[1], Of: n[2], Class: s[0], Reason: s[1], In: api.Span{From: n[3], Until: n[4]}})
	case 11:
		r.Clerks = append(slices.Clone(r.Clerks), api.Clerk{ID: n[0], Role: n[1], Name: s[0], In: api.Span{From: n[2], Until: n[3]}})
	}
	return r, fault
}

// entering returns the registry behind an event of another kind.
func entering(r api.Registry, e api.Event) (api.Registry, api.Errno) {
	n, s := e.Numbers, e.Texts
	fault := api.OK
	switch e.Kind {
	case 4:
		r.Files = append(slices.Clone(r.Files), api.File{ID: n[0], Office: n[1], Opened: e.Day, Closed: 1 << 20, Class: s[0], Title: s[1], Points: n[2]})
	case 5:
		r.Files, fault = file.Add(r.Files, n[0], api.Note{Name: s[0], Day: api.Dating{First: n[1], Last: n[2]}, Recorded: e.Day})
	case 6:
		r.Files, fault = file.Close(r.Files, n[0], e.Day)
	case 8:
		r.Rules, fault = rule.End(r.Rules, n[0], n[1])
	case 10:
		r.Holds, fault = hold.Release(r.Holds, n[0], n[1])
	case 12:
		files, e2 := sample.Select(r, api.Sample{ID: n[0], Method: n[1], N: n[2], Start: n[3], Class: s[0], Seed: s[1]}, e.Day)
		r.Selections, fault = append(slices.Clone(r.Selections), api.Selection{Sample: n[0], Day: e.Day, Files: files}), e2
	case 13:
		r, fault = disposal.Propose(r, api.Proposal{ID: n[0], Day: e.Day, Clerk: n[1], Files: n[2:], Withdrawn: 1 << 20})
	case 14:
		r, fault = disposal.Approve(r, api.Approval{Proposal: n[0], Day: e.Day, Clerk: n[1]})
	case 15:
		r, fault = disposal.Withdraw(r, n[0], e.Day)
	case 16:
		r, _, fault = disposal.Destroy(r, n[0], e.Day)
	case 17:
		v, e2 := verdict.On(r, n[0], e.Day)
		if fault = e2; e2 == api.OK && v.Kind != api.VerdictTransfer {
			fault = api.ErrHeld
		}
		r.Departures = append(slices.Clone(r.Departures), api.Departure{File: n[0], Day: e.Day})
	}
	return r, fault
}
