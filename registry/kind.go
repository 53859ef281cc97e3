package registry

import (
	"slices"

	"archivum/api"
	"archivum/disposal"
	"archivum/file"
	"archivum/hold"
	"archivum/number"
	"archivum/office"
	"archivum/rule"
	"archivum/sample"
	"archivum/span"
	"archivum/verdict"
)

// kind is what events of a kind are like: which Numbers and Texts they have, from which day on they change something, and how.
type kind struct {
	hasForm func(e api.Event) bool
	begins  func(e api.Event) int
	enter   func(r api.Registry, e api.Event) (api.Registry, api.Errno)
}

// kinds returns the kinds by their numbers.
func kinds() map[int]kind {
	return map[int]kind{
		1:  {has(3, 1), dayAt(1), addOffice},
		2:  {hasAtLeast(2), dayAt(1), endOffice},
		3:  {isPlan, dayAt(0), addPlan},
		4:  {has(3, 2), today, openFile},
		5:  {has(3, 1), today, addNote},
		6:  {has(1, 0), today, closeFile},
		7:  {isRule, dayAt(4), addRule},
		8:  {has(2, 0), dayAt(1), endRule},
		9:  {has(5, 2), dayAt(3), addHold},
		10: {has(2, 0), dayAt(1), releaseHold},
		11: {has(4, 1), dayAt(2), addClerk},
		12: {has(4, 2), today, selectFiles},
		13: {hasAtLeast(2), today, propose},
		14: {has(2, 0), today, approve},
		15: {has(1, 0), today, withdraw},
		16: {has(1, 0), today, destroy},
		17: {has(1, 0), today, transfer},
	}
}

// has returns the function that admits events with so many Numbers and Texts.
func has(numbers, texts int) func(e api.Event) bool {
	return func(e api.Event) bool { return len(e.Numbers) == numbers && len(e.Texts) == texts }
}

// hasAtLeast returns the function that admits events with so many Numbers or more, and no Texts.
func hasAtLeast(numbers int) func(e api.Event) bool {
	return func(e api.Event) bool { return len(e.Numbers) >= numbers && len(e.Texts) == 0 }
}

func isPlan(e api.Event) bool {
	if len(e.Numbers) != 4 || len(e.Texts)%2 != 0 {
		return false
	}
	pairs, classes := len(e.Texts)/2, e.Numbers[2]
	// The sum of two numbers of an event could be too great.
	return number.From(classes, 0, pairs) && e.Numbers[3] == pairs-classes
}

func isRule(e api.Event) bool { return has(6, 2)(e) && number.From(e.Numbers[2], 0, 1) }

// dayAt returns the function that returns the number of an event with an index.
func dayAt(i int) func(e api.Event) int {
	return func(e api.Event) int { return e.Numbers[i] }
}

func today(e api.Event) int { return e.Day }

// add returns a list with one more element, which does not share what is behind the end of the list.
func add[T any](l []T, x T) []T { return append(slices.Clip(l), x) }

func addOffice(r api.Registry, e api.Event) (api.Registry, api.Errno) {
	n := e.Numbers
	r.Offices = add(r.Offices, api.Office{ID: n[0], Name: e.Texts[0], In: api.Span{From: n[1], Until: n[2]}})
	return r, api.OK
}

func endOffice(r api.Registry, e api.Event) (api.Registry, api.Errno) {
	var fault api.Errno
	r.Offices, fault = office.End(r.Offices, e.Numbers[0], e.Numbers[1], e.Numbers[2:])
	return r, fault
}

func addPlan(r api.Registry, e api.Event) (api.Registry, api.Errno) {
	in := api.Span{From: e.Numbers[0], Until: e.Numbers[1]}
	p := api.Plan{Version: len(r.Plans) + 1, In: in}
	for i := 0; i < len(e.Texts); i += 2 {
		if i < 2*e.Numbers[2] {
			p.Classes = append(p.Classes, api.Class{Code: e.Texts[i], Title: e.Texts[i+1]})
		} else {
			p.Moved = append(p.Moved, api.Moved{From: e.Texts[i], To: e.Texts[i+1]})
		}
	}
	r.Plans = add(r.Plans, p)
	if len(r.Plans) == 1 {
		return r, api.OK
	}
	before := &r.Plans[len(r.Plans)-2].In
	if !span.CanEnd(*before, in.From) {
		return api.Registry{}, api.ErrGap
	}
	before.Until = in.From
	return r, api.OK
}

func openFile(r api.Registry, e api.Event) (api.Registry, api.Errno) {
	n := e.Numbers
	r.Files = add(r.Files, api.File{
		ID: n[0], Office: n[1], Opened: e.Day, Closed: api.Forever, Class: e.Texts[0], Title: e.Texts[1], Points: n[2],
	})
	return r, api.OK
}

func addNote(r api.Registry, e api.Event) (api.Registry, api.Errno) {
	n := api.Note{Name: e.Texts[0], Day: api.Dating{First: e.Numbers[1], Last: e.Numbers[2]}, Recorded: e.Day}
	var fault api.Errno
	r.Files, fault = file.Add(r.Files, e.Numbers[0], n)
	return r, fault
}

func closeFile(r api.Registry, e api.Event) (api.Registry, api.Errno) {
	var fault api.Errno
	r.Files, fault = file.Close(r.Files, e.Numbers[0], e.Day)
	return r, fault
}

func addRule(r api.Registry, e api.Event) (api.Registry, api.Errno) {
	n := e.Numbers
	r.Rules = add(r.Rules, api.Rule{
		ID: n[0], Class: e.Texts[0], Trigger: e.Texts[1], Years: n[1], YearEnd: n[2] == 1, Action: n[3], In: api.Span{From: n[4], Until: n[5]},
	})
	return r, api.OK
}

func endRule(r api.Registry, e api.Event) (api.Registry, api.Errno) {
	var fault api.Errno
	r.Rules, fault = rule.End(r.Rules, e.Numbers[0], e.Numbers[1])
	return r, fault
}

func addHold(r api.Registry, e api.Event) (api.Registry, api.Errno) {
	n := e.Numbers
	r.Holds = add(r.Holds, api.Hold{
		ID: n[0], Kind: n[1], Of: n[2], Class: e.Texts[0], Reason: e.Texts[1], In: api.Span{From: n[3], Until: n[4]},
	})
	return r, api.OK
}

func releaseHold(r api.Registry, e api.Event) (api.Registry, api.Errno) {
	var fault api.Errno
	r.Holds, fault = hold.Release(r.Holds, e.Numbers[0], e.Numbers[1])
	return r, fault
}

func addClerk(r api.Registry, e api.Event) (api.Registry, api.Errno) {
	n := e.Numbers
	r.Clerks = add(r.Clerks, api.Clerk{ID: n[0], Role: n[1], Name: e.Texts[0], In: api.Span{From: n[2], Until: n[3]}})
	return r, api.OK
}

func selectFiles(r api.Registry, e api.Event) (api.Registry, api.Errno) {
	n := e.Numbers
	s := api.Sample{ID: n[0], Method: n[1], N: n[2], Start: n[3], Class: e.Texts[0], Seed: e.Texts[1]}
	files, fault := sample.Select(r, s, e.Day)
	r.Selections = add(r.Selections, api.Selection{Sample: s.ID, Day: e.Day, Files: files})
	return r, fault
}

func propose(r api.Registry, e api.Event) (api.Registry, api.Errno) {
	n := e.Numbers
	return disposal.Propose(r, api.Proposal{ID: n[0], Day: e.Day, Clerk: n[1], Files: n[2:], Withdrawn: api.Forever})
}

func approve(r api.Registry, e api.Event) (api.Registry, api.Errno) {
	return disposal.Approve(r, api.Approval{Proposal: e.Numbers[0], Day: e.Day, Clerk: e.Numbers[1]})
}

func withdraw(r api.Registry, e api.Event) (api.Registry, api.Errno) {
	return disposal.Withdraw(r, e.Numbers[0], e.Day)
}

func destroy(r api.Registry, e api.Event) (api.Registry, api.Errno) {
	r, _, fault := disposal.Destroy(r, e.Numbers[0], e.Day)
	return r, fault
}

func transfer(r api.Registry, e api.Event) (api.Registry, api.Errno) {
	v, fault := verdict.On(r, e.Numbers[0], e.Day)
	switch {
	case fault != api.OK:
		return api.Registry{}, fault
	case v.Kind != api.VerdictTransfer:
		return api.Registry{}, api.ErrHeld
	}
	r.Departures = add(r.Departures, api.Departure{File: v.File, Day: e.Day})
	return r, api.OK
}
