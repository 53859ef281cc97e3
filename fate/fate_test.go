package fate_test

import (
	"math"
	"reflect"
	"testing"

	"archivum/api"
	"archivum/fate"
	"archivum/file"
	"archivum/plan"
)

var always = api.Span{From: 0, Until: api.Forever}

// some returns a registry in which the file 1 was destroyed, 3 transferred, and both were selected.
func some() api.Registry {
	return api.Registry{
		Plans: []api.Plan{{Version: 1, In: api.Span{From: 0, Until: 80}, Classes: []api.Class{{Code: "1", Title: "Mills"}, {Code: "2", Title: "Weirs"}}}},
		Rules: []api.Rule{
			{ID: 2, Class: "1", Trigger: "paid", Action: api.ActionDestroy, In: always},
			{ID: 4, Class: "2", Trigger: "opened", Action: api.ActionDestroy, In: always},
			{ID: 6, Class: "1", Trigger: "closed", Years: 1, Action: api.ActionTransfer, In: api.Span{From: 0, Until: 60}},
		},
		Selections:   []api.Selection{{Sample: 5, Day: 20, Files: []int{3}}, {Sample: 6, Day: 30, Files: []int{1, 3}}},
		Certificates: []api.Certificate{{Number: 1, Day: 40}, {Number: 2, Day: 50, Files: []int{1, 5}}},
		Departures:   []api.Departure{{File: 7, Day: 60}, {File: 3, Day: 70}},
	}
}

// P11.2, P12.1: what was entered about a file counts from its day on, and the first selection counts.
func TestEntries(t *testing.T) {
	for i, x := range []struct {
		find   func(r api.Registry, id, by int) (fate.Entry, bool)
		id, by int
		want   fate.Entry
		ok     bool
	}{
		{fate.Destroyed, 1, 49, fate.Entry{}, false},
		{fate.Destroyed, 1, 50, fate.Entry{Number: 2, Day: 50}, true},
		{fate.Destroyed, 5, api.MaxDay, fate.Entry{Number: 2, Day: 50}, true},
		{fate.Destroyed, 3, api.MaxDay, fate.Entry{}, false},
		{fate.Transferred, 3, 69, fate.Entry{}, false},
		{fate.Transferred, 3, 70, fate.Entry{Day: 70}, true},
		{fate.Transferred, 7, api.MaxDay, fate.Entry{Day: 60}, true},
		{fate.Transferred, 1, api.MaxDay, fate.Entry{}, false},
		{fate.Selected, 3, 19, fate.Entry{}, false},
		{fate.Selected, 3, 20, fate.Entry{Number: 5, Day: 20}, true},
		{fate.Selected, 3, 30, fate.Entry{Number: 5, Day: 20}, true},
		{fate.Selected, 1, 29, fate.Entry{}, false},
		{fate.Selected, 1, 30, fate.Entry{Number: 6, Day: 30}, true},
		{fate.Selected, 7, api.MaxDay, fate.Entry{}, false},
	} {
		if got, ok := x.find(some(), x.id, x.by); got != x.want || ok != x.ok {
			t.Error(i, got, ok)
		}
	}
}

// P15.3: the same for registries with faults, and for all numbers as days.
func TestEntriesOfAny(t *testing.T) {
	r := api.Registry{
		Selections:   []api.Selection{{Sample: -1, Day: math.MaxInt, Files: []int{3, 3}}, {Sample: 2, Day: -5, Files: []int{3}}},
		Certificates: []api.Certificate{{Number: 9, Day: 70, Files: []int{4, 1}}, {Number: 9, Day: 20, Files: []int{1}}, {Day: math.MaxInt, Files: []int{-6}}},
		Departures:   []api.Departure{{File: 7, Day: 60}, {File: 7, Day: 30}, {File: 0, Day: math.MinInt}},
	}
	for i, x := range []struct {
		find   func(r api.Registry, id, by int) (fate.Entry, bool)
		id, by int
		want   fate.Entry
		ok     bool
	}{
		{fate.Destroyed, 1, math.MaxInt, fate.Entry{Number: 9, Day: 70}, true},
		{fate.Destroyed, 1, 69, fate.Entry{Number: 9, Day: 20}, true},
		{fate.Destroyed, 1, math.MinInt, fate.Entry{}, false},
		{fate.Destroyed, -6, math.MaxInt, fate.Entry{Day: math.MaxInt}, true},
		{fate.Transferred, 7, math.MaxInt, fate.Entry{Day: 60}, true},
		{fate.Transferred, 7, 59, fate.Entry{Day: 30}, true},
		{fate.Transferred, 0, math.MinInt, fate.Entry{Day: math.MinInt}, true},
		{fate.Transferred, 1, math.MaxInt, fate.Entry{}, false},
		{fate.Selected, 3, math.MaxInt, fate.Entry{Number: -1, Day: math.MaxInt}, true},
		{fate.Selected, 3, 0, fate.Entry{Number: 2, Day: -5}, true},
	} {
		if got, ok := x.find(r, x.id, x.by); got != x.want || ok != x.ok {
			t.Error(i, got, ok)
		}
	}
}

// P11.2, P12.1: the terms of a file are those of the rules that apply; without its trigger a term has no dating and no due day.
func TestTerms(t *testing.T) {
	r := some()
	f := api.File{ID: 1, Opened: 5, Closed: 10, Class: "1", Notes: []api.Note{{Name: "paid", Day: api.Dating{First: 8, Last: 9}, Recorded: 30}}}
	paid := fate.Term{Rule: r.Rules[0], Started: true, Start: api.Dating{First: 8, Last: 9}, Due: 9}
	closed := fate.Term{Rule: r.Rules[2], Started: true, Start: api.Dating{First: 10, Last: 10}, Due: 376}
	for i, x := range []struct {
		day  int
		want []fate.Term
	}{
		{0, []fate.Term{{Rule: r.Rules[0]}, {Rule: r.Rules[2]}}},
		{9, []fate.Term{{Rule: r.Rules[0]}, {Rule: r.Rules[2]}}},
		{10, []fate.Term{{Rule: r.Rules[0]}, closed}},
		{29, []fate.Term{{Rule: r.Rules[0]}, closed}},
		{30, []fate.Term{paid, closed}},
		{59, []fate.Term{paid, closed}},
		{60, []fate.Term{paid}},
		{79, []fate.Term{paid}},
		{80, nil},
	} {
		if got := fate.Terms(r, f, x.day); !reflect.DeepEqual(got, x.want) {
			t.Error(i, got)
		}
	}
}

// P11.2, P13.1: the class of a file on a day is that of file.Class, and empty where that has none.
func TestClass(t *testing.T) {
	titled := func(codes ...string) []api.Class {
		var l []api.Class
		for _, c := range codes {
			l = append(l, api.Class{Code: c, Title: "Class " + c})
		}
		return l
	}
	r := api.Registry{Plans: []api.Plan{
		{Version: 1, In: api.Span{From: 10, Until: 30}, Classes: titled("1", "1.1", "1.1.1", "2")},
		{Version: 2, In: api.Span{From: 30, Until: 60}, Classes: titled("1", "1.1", "3"), Moved: []api.Moved{{From: "2", To: "1.1"}}},
		{Version: 3, In: api.Span{From: 60, Until: 110}, Classes: titled("1", "3"), Moved: []api.Moved{{From: "1.1", To: "3"}}},
	}}
	found := 0
	for _, opened := range []int{10, 29, 30, 59, 60, 109} {
		for _, code := range []string{"1", "1.1", "1.1.1", "2", "3"} {
			f := api.File{ID: 1, Opened: opened, Closed: api.Forever, Class: code}
			if version := plan.At(r.Plans, opened); !plan.Has(r.Plans[version], code) {
				continue
			}
			for _, day := range []int{0, 9, 10, 29, 30, 59, 60, 109, 110, api.MaxDay} {
				want, e := file.Class(r.Plans, f, day)
				if e == api.OK {
					found++
				}
				if got := fate.Class(r, f, day); got != want {
					t.Error(f, day, got, want)
				}
			}
		}
	}
	if found != 2*(4*6+3*4+2*2) {
		t.Error(found)
	}
}
