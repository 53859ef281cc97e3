package registry_test

import (
	"fmt"
	"math"
	"math/rand"
	"reflect"
	"slices"
	"strconv"
	"testing"

	"archivum/api"
	"archivum/registry"
	"archivum/verdict"
)

// P15.1, P15.2: the example of the chapter.
func TestExample(t *testing.T) {
	l := []api.Event{
		{ID: 1, Day: 0, Kind: 1, Numbers: []int{1, 0, 1048576}, Texts: []string{"Mills"}},
		{ID: 2, Day: 0, Kind: 3, Numbers: []int{0, 1048576, 1, 0}, Texts: []string{"1", "Files"}},
		{ID: 3, Day: 5, Kind: 4, Numbers: []int{7, 1, 0}, Texts: []string{"1", "Letters"}},
	}
	want := api.Registry{
		Offices: []api.Office{{ID: 1, Name: "Mills", In: always}},
		Plans:   []api.Plan{{Version: 1, In: always, Classes: []api.Class{{Code: "1", Title: "Files"}}}},
		Files:   []api.File{{ID: 7, Office: 1, Opened: 5, Closed: api.Forever, Class: "1", Title: "Letters"}},
		Changed: 5,
	}
	if r, i, e := registry.Fold(l); i != -1 || e != api.OK || !isSame(r, want) {
		t.Error(r, i, e)
	}
	want.Files, want.Changed = nil, 0
	for _, day := range []int{0, 1, 4} {
		if r, i, e := registry.On(l, day); i != -1 || e != api.OK || !isSame(r, want) {
			t.Error(day, r, i, e)
		}
	}
}

// opening returns events up to the day 10, with which all histories begin.
func opening() []api.Event {
	return numbered(
		event(0, 1, texts("Mills"), 1, 0, api.Forever),
		event(0, 3, texts("1", "Mills", "1.1", "Letters", "2", "Weirs"), 0, api.Forever, 3, 0),
		event(0, 11, texts("Ada"), 1, api.RoleManager, 0, api.Forever),
		event(0, 11, texts("Ben"), 2, api.RoleArchivist, 0, api.Forever),
		event(0, 11, texts("Cleo"), 3, api.RoleAuditor, 0, api.Forever),
		event(2, 7, texts("1", "closed"), 1, 0, 0, api.ActionDestroy, 2, api.Forever),
		event(2, 7, texts("2", "closed"), 2, 0, 0, api.ActionTransfer, 3, api.Forever),
		event(4, 4, texts("1", "Acts"), 1, 1, 20),
		event(4, 4, texts("1.1", "Letters"), 2, 1, 60),
		event(5, 4, texts("2", "Weirs"), 3, 1, 0),
		event(8, 6, nil, 1),
		event(10, 6, nil, 3),
	)
}

func pick[T any](r *rand.Rand, l ...T) T { return l[r.Intn(len(l))] }

// ahead returns a day that is rarely before another one.
func ahead(rnd *rand.Rand, day int) int {
	return pick(rnd, day, day, day+1, day+2, day+5, day+20, day-1, api.Forever)
}

// someKind returns a kind of event; those by which files leave are more frequent.
func someKind(rnd *rand.Rand) int {
	if rnd.Intn(3) > 0 {
		return pick(rnd, 4, 4, 6, 6, 6, 13, 13, 14, 14, 14, 14, 14, 14, 16, 16, 16, 17, 17)
	}
	return 1 + rnd.Intn(17)
}

// someEvent returns an event for a registry, which is often admitted.
func someEvent(rnd *rand.Rand, r api.Registry, id, day int) api.Event {
	kind := someKind(rnd)
	from := ahead(rnd, day)
	until := pick(rnd, from+1, from+10, from+30, api.Forever, api.Forever, api.Forever)
	some := 1 + rnd.Intn(len(r.Files)+1)
	proposal := max(len(r.Proposals)-rnd.Intn(2), rnd.Intn(2))
	class := pick(rnd, "1", "1.1", "2", "3", "1", "2")
	e := event(day, kind, nil)
	switch kind {
	case 1:
		e = event(day, kind, texts("Works"), len(r.Offices)+pick(rnd, 1, 1, 1, 0), from, until)
	case 2:
		e = event(day, kind, nil, 1+rnd.Intn(len(r.Offices)+1), from)
		if rnd.Intn(3) > 0 {
			// an office that begins just then, if there is one
			next := r.Offices[rnd.Intn(len(r.Offices))]
			e = event(day, kind, nil, pick(rnd, 1, 1, 2, 3), pick(rnd, next.In.From, next.In.From, from), next.ID)
		}
	case 3:
		e = somePlan(rnd, day, from, until)
	case 4:
		e = event(day, kind, texts(class, pick(rnd, "Acts", "Letters", "Maps")), len(r.Files)+pick(rnd, 1, 1, 1, 1, 0), pick(rnd, 1, 1, 1, 2, 3), rnd.Intn(103))
	case 5:
		first := rnd.Intn(day + 1)
		e = event(day, kind, texts(pick(rnd, "paid", "paid", "audited", "closed")), some, first, first+pick(rnd, 0, 0, 5, 40, -1))
	case 7:
		e = event(day, kind, texts(class, pick(rnd, "closed", "closed", "opened", "paid")), len(r.Rules)+pick(rnd, 1, 1, 1, 0), 0, rnd.Intn(2)*rnd.Intn(3), pick(rnd, 1, 1, 2), from, until)
		if rnd.Intn(5) == 0 {
			e = event(day, kind, texts(class, "opened"), len(r.Rules)+1, 0, 0, 3, from, until)
		}
	case 9:
		e = event(day, kind, texts("", "Inquiry"), len(r.Holds)+1, 1, some, from, until)
		if rnd.Intn(2) == 0 {
			e = pick(rnd, event(day, kind, texts("", "Claim"), len(r.Holds)+1, 2, pick(rnd, 1, 2, 3), from, until), event(day, kind, texts(class, "Claim"), len(r.Holds)+1, 3, 0, from, until))
		}
	case 8, 10:
		e = event(day, kind, nil, 1+rnd.Intn(max(len(r.Rules), len(r.Holds))+1), from)
	case 11:
		e = event(day, kind, texts("Dan"), len(r.Clerks)+pick(rnd, 1, 1, 0), 1+rnd.Intn(4), from, until)
	case 12:
		e = event(day, kind, texts(class, ""), 1+rnd.Intn(5), 4, 40+rnd.Intn(62), 0)
		if rnd.Intn(2) == 0 {
			e = event(day, kind, texts(class, "seed"), 7, 2, rnd.Intn(3), 0)
		}
	case 13:
		e = event(day, kind, nil, append([]int{len(r.Proposals) + pick(rnd, 1, 1, 1, 0), 1 + rnd.Intn(4)}, someFiles(rnd, r)...)...)
	case 14:
		e = event(day, kind, nil, proposal, 1+rnd.Intn(4))
	case 15, 16:
		e = event(day, kind, nil, proposal)
	default:
		e = event(day, kind, nil, some)
	}
	e.ID = id
	if rnd.Intn(40) == 0 {
		spoil(rnd, &e)
	}
	return e
}

func somePlan(rnd *rand.Rand, day, from, until int) api.Event {
	switch rnd.Intn(4) {
	case 0:
		return event(day, 3, texts("1", "Mills", "2", "Weirs", "3", "Water"), from, until, 3, 0)
	case 1:
		return event(day, 3, texts("1", "Mills", "2", "Weirs", "3", "Water", "1", "3"), from, until, 3, 1)
	case 2:
		return event(day, 3, texts("1", "Mills", "1.1", "Letters", "2", "Weirs"), from, until, 2, 1)
	}
	return event(day, 3, texts("1", "Mills", "1.1", "Letters", "2", "Weirs"), from, api.Forever, 3, 0)
}

// someFiles returns IDs of files in order, mostly of those that may be destroyed.
func someFiles(rnd *rand.Rand, r api.Registry) []int {
	ids, _ := verdict.Due(r, api.VerdictDestroy, min(r.Changed+rnd.Intn(3), api.MaxDay))
	if len(ids) == 0 || rnd.Intn(5) == 0 {
		ids = []int{1 + rnd.Intn(len(r.Files)+1)}
	}
	return ids[:1+rnd.Intn(min(len(ids), 3))]
}

// spoil changes something of an event.
func spoil(rnd *rand.Rand, e *api.Event) {
	switch rnd.Intn(5) {
	case 0:
		e.Numbers[rnd.Intn(len(e.Numbers))] = pick(rnd, -1, 0, 1, api.Forever, math.MaxInt, math.MinInt)
	case 1:
		e.Numbers = append(e.Numbers, 1)
	case 2:
		e.Texts = append(e.Texts, "1")
	case 3:
		e.Day = pick(rnd, -1, 0, api.MaxDay+1, math.MaxInt)
	case 4:
		e.Kind = pick(rnd, -1, 0, 18, 19, 20, 1+rnd.Intn(17))
	}
}

func textOf(kind int, e api.Errno) string { return fmt.Sprint(kind, " ", int(e)) }

// run applies events at random one after the other, each one compared with the definition, and returns those that were admitted.
func run(t *testing.T, rnd *rand.Rand, n int, done map[string]int) []api.Event {
	t.Helper()
	l := opening()
	r, _, _ := registry.Fold(l)
	day := 10
	for range n {
		day += rnd.Intn(3)
		e := someEvent(rnd, r, len(l)+1, day)
		before, entered := fmt.Sprintf("%+v", r), fmt.Sprintf("%+v", e)
		want, f := applying(r, e)
		got, fault := registry.Apply(r, e)
		if fault != f || !isSame(got, want) {
			t.Fatalf("%+v %+v %v %v %+v", r, e, fault, f, got)
		}
		if fmt.Sprintf("%+v", r) != before || fmt.Sprintf("%+v", e) != entered {
			t.Fatalf("%+v %+v", r, e)
		}
		done[textOf(e.Kind, fault)]++
		if fault != api.OK {
			continue
		}
		checkStep(t, rnd, r, got, e)
		r, l = got, append(l, e)
	}
	return l
}

// checkStep checks the consequences of an event: a registry without a fault, verdicts of earlier days that do not change, and only files gone that may go.
func checkStep(t *testing.T, rnd *rand.Rand, r, next api.Registry, e api.Event) {
	t.Helper()
	if registry.Check(next) != api.OK || next.Changed != e.Day {
		t.Fatalf("%+v %+v", next, e)
	}
	for _, f := range r.Files {
		for _, day := range []int{e.Day - 1, rnd.Intn(e.Day)} {
			v, _ := verdict.On(r, f.ID, day)
			w, _ := verdict.On(next, f.ID, day)
			if !reflect.DeepEqual(v, w) {
				t.Fatalf("%+v %+v %v %v", r, e, v, w)
			}
		}
		v, _ := verdict.On(r, f.ID, e.Day)
		w, _ := verdict.On(next, f.ID, e.Day)
		left := v.Kind != w.Kind
		if left && w.Kind == api.VerdictGone && (v.Kind != api.VerdictDestroy || e.Kind != 16) || left && w.Kind == api.VerdictMoved && (v.Kind != api.VerdictTransfer || e.Kind != 17) {
			t.Fatalf("%+v %+v %v %v", r, e, v, w)
		}
		if gone, ok := registry.Gone(next, f.ID); ok != (w.Kind == api.VerdictGone || w.Kind == api.VerdictMoved) || ok && gone > e.Day || !ok && gone != 0 {
			t.Fatalf("%+v %+v %v %v", next, f, gone, ok)
		}
	}
}

// P15.1, P15.4: many histories, in which each event leads where it has to.
func TestHistories(t *testing.T) {
	rnd := rand.New(rand.NewSource(15))
	done := map[string]int{}
	for range 500 {
		run(t, rnd, 60, done)
	}
	for kind := 1; kind <= 17; kind++ {
		if n := done[textOf(kind, api.OK)]; n < 40 {
			t.Error(kind, n)
		}
	}
	for _, x := range []struct {
		kind int
		e    api.Errno
	}{
		{1, api.ErrArg}, {1, api.ErrOrder}, {1, api.ErrRange}, {2, api.ErrOrder}, {2, api.ErrNotFound}, {2, api.ErrMismatch}, {2, api.ErrRange},
		{3, api.ErrOrder}, {3, api.ErrGap}, {3, api.ErrNoPlan}, {3, api.ErrNotFound}, {3, api.ErrRange}, {4, api.ErrOrder}, {4, api.ErrNoPlan}, {4, api.ErrNotFound}, {4, api.ErrRange},
		{5, api.ErrNotFound}, {5, api.ErrName}, {5, api.ErrRange}, {6, api.ErrState}, {6, api.ErrNotFound}, {7, api.ErrArg}, {7, api.ErrOrder}, {8, api.ErrOrder}, {8, api.ErrNotFound},
		{9, api.ErrOrder}, {10, api.ErrRange}, {10, api.ErrNotFound}, {11, api.ErrRange}, {11, api.ErrOrder}, {12, api.ErrArg}, {13, api.ErrOrder}, {13, api.ErrNotFound}, {13, api.ErrTwice},
		{14, api.ErrState}, {14, api.ErrDenied}, {14, api.ErrTwice}, {14, api.ErrNotFound}, {15, api.ErrState}, {15, api.ErrNotFound},
		{16, api.ErrState}, {16, api.ErrDenied}, {16, api.ErrHeld}, {16, api.ErrNotFound}, {17, api.ErrHeld}, {17, api.ErrNotFound},
	} {
		if n := done[textOf(x.kind, x.e)]; n < 3 {
			t.Error(x.kind, x.e, n)
		}
	}
}

// folding returns what Fold has to return for the first n events, and the registry behind each of them.
func folding(l []api.Event, n int) ([]api.Registry, int, api.Errno) {
	if len(l) > 1024 {
		return nil, -1, api.ErrTooLarge
	}
	states := []api.Registry{{}}
	for i := range n {
		if i > 0 && l[i].ID <= l[i-1].ID {
			return nil, i, api.ErrOrder
		}
		r, e := applying(states[i], l[i])
		if e != api.OK {
			return nil, i, e
		}
		states = append(states, r)
	}
	return states, -1, api.OK
}

// compareAll compares Fold, On and History for events with their definitions.
func compareAll(t *testing.T, l []api.Event, days ...int) {
	t.Helper()
	before := fmt.Sprintf("%+v", l)
	states, index, fault := folding(l, len(l))
	if fault != api.OK {
		states = []api.Registry{{}}
	}
	if r, i, e := registry.Fold(l); i != index || e != fault || !isSame(r, states[len(states)-1]) {
		t.Fatalf("%+v %v %v", l, i, e)
	}
	for _, day := range days {
		n := slices.IndexFunc(l, func(e api.Event) bool { return e.Day > day })
		if n < 0 {
			n = len(l)
		}
		want := api.Registry{}
		some, index, fault := folding(l, n)
		if fault == api.OK {
			want = some[n]
		}
		if r, i, e := registry.On(l, day); i != index || e != fault || !isSame(r, want) {
			t.Fatalf("%+v %v %v %v", l, day, i, e)
		}
	}
	for id := range 8 {
		var want []api.Verdict
		for i, r := range states[1:] {
			if v, e := verdict.On(r, id, l[i].Day); e == api.OK {
				want = append(want, v)
			}
		}
		if got, e := registry.History(l, id); e != fault || !isSameList(got, want) {
			t.Fatalf("%+v %v %v %v", l, id, got, e)
		}
	}
	if fmt.Sprintf("%+v", l) != before {
		t.Fatal(before)
	}
}

func isSameList(a, b []api.Verdict) bool { return fmt.Sprint(a) == fmt.Sprint(b) }

// P15.2, P15.3: Fold, On and History for many histories, also with events that cannot be applied.
func TestFold(t *testing.T) {
	rnd := rand.New(rand.NewSource(16))
	faults := map[api.Errno]int{}
	for i := range 60 {
		l := run(t, rnd, 40, map[string]int{})
		last := l[len(l)-1].Day
		days := []int{-1, 0, 1, 4, 9, 10, rnd.Intn(last + 1), rnd.Intn(last + 1), last - 1, last, last + 1, api.MaxDay, math.MaxInt, math.MinInt}
		compareAll(t, l, days...)
		for range 3 {
			m := slices.Clone(l)
			k := rnd.Intn(len(m))
			switch rnd.Intn(4) {
			case 0:
				m[k].ID = pick(rnd, m[max(k-1, 0)].ID, 0, -1, api.MaxID+1, 1)
			case 1:
				m = slices.Delete(m, k, k+1)
			case 2:
				m[k].Day = pick(rnd, -1, 0, last, last+1, math.MaxInt)
			case 3:
				m[k].Kind = pick(rnd, 0, 6, 18, 20)
			}
			if i < 20 {
				compareAll(t, m, days...)
			}
			_, _, e := registry.Fold(m)
			faults[e]++
		}
	}
	for _, e := range []api.Errno{api.OK, api.ErrArg, api.ErrOrder, api.ErrNotFound} {
		if faults[e] < 5 {
			t.Error(e, faults[e])
		}
	}
}

// P15.2, P15.3: the order of IDs.
func TestIDs(t *testing.T) {
	for i, x := range []struct {
		ids   []int
		index int
		e     api.Errno
	}{
		{[]int{1, 2, 3}, -1, api.OK},
		{[]int{5, 70, api.MaxID}, -1, api.OK},
		{[]int{0, 2, 3}, 0, api.ErrArg},
		{[]int{-4, -3, 3}, 0, api.ErrArg},
		{[]int{1, 2, 2}, 2, api.ErrOrder},
		{[]int{2, 1, 3}, 1, api.ErrOrder},
		{[]int{1, 0, 3}, 1, api.ErrOrder},
		{[]int{1, -5, 3}, 1, api.ErrOrder},
		{[]int{1, 2, api.MaxID + 1}, 2, api.ErrArg},
		{[]int{1, api.MaxID + 1, 3}, 1, api.ErrArg},
	} {
		l := opening()[:3]
		for k := range l {
			l[k].ID = x.ids[k]
		}
		if _, k, e := registry.Fold(l); k != x.index || e != x.e {
			t.Error(i, k, e)
		}
		compareAll(t, l, -1, 0, 1)
		// the order of IDs goes ahead of everything else
		l[2].Kind = 0
		compareAll(t, l, -1, 0, 1)
	}
}

// P15.2: events behind the first one with a later day do not matter, not even if they are wrong.
func TestOnStops(t *testing.T) {
	l := append(opening(), event(20, 6, nil, 77), event(11, 6, nil, 2), event(11, 6, nil, 2))
	for i, x := range []struct{ day, files, index int }{
		{-1, 0, -1}, {3, 0, -1}, {4, 2, -1}, {7, 3, -1}, {10, 3, -1}, {19, 3, -1}, {20, 0, 12}, {21, 0, 12},
	} {
		r, k, e := registry.On(l, x.day)
		if k != x.index || (e == api.OK) != (k < 0) || len(r.Files) != x.files {
			t.Error(i, k, e, r.Files)
		}
	}
	l[12].ID, l[12].Numbers = 13, []int{2}
	l[13].ID, l[14].ID = 14, 15
	compareAll(t, l, -1, 3, 10, 11, 19, 20, 21)
	if r, k, e := registry.On(l, 20); k != 13 || e != api.ErrOrder || !isSame(r, api.Registry{}) {
		t.Error(k, e)
	}
}

// P15.2, P15.3: as many events as there can be, and one more.
func TestMaxEvents(t *testing.T) {
	l := opening()
	for len(l) < 1025 {
		l = append(l, event(11+len(l), 12, texts("1", ""), 1, 4, 0, 0))
		l[len(l)-1].ID = len(l)
	}
	r, i, e := registry.Fold(l[:1024])
	if i != -1 || e != api.OK || len(r.Selections) != 1012 || r.Changed != 1034 {
		t.Error(i, e, len(r.Selections), r.Changed)
	}
	if h, e := registry.History(l[:1024], 1); e != api.OK || len(h) != 1017 {
		t.Error(e, len(h))
	}
	if r, i, e := registry.On(l[:1024], 400); i != -1 || e != api.OK || r.Changed != 400 {
		t.Error(i, e, r.Changed)
	}
	for range 2 {
		if r, i, e := registry.Fold(l); i != -1 || e != api.ErrTooLarge || !isSame(r, api.Registry{}) {
			t.Error(i, e)
		}
		for _, day := range []int{-1, 5, 400, api.MaxDay} {
			if r, i, e := registry.On(l, day); i != -1 || e != api.ErrTooLarge || !isSame(r, api.Registry{}) {
				t.Error(day, i, e)
			}
		}
		if h, e := registry.History(l, 1); e != api.ErrTooLarge || len(h) != 0 {
			t.Error(e, len(h))
		}
		l[0].ID = 0
	}
	for _, l := range [][]api.Event{nil, {}} {
		compareAll(t, l, -1, 0, 5)
	}
}

// P15.3: the verdicts on files behind each event, also of one that is destroyed.
func TestHistory(t *testing.T) {
	l := append(opening(),
		event(10, 9, texts("", "Inquiry"), 1, 1, 1, 12, 14),
		event(11, 13, nil, 1, 1, 1),
		event(12, 14, nil, 1, 2),
		event(13, 14, nil, 1, 3),
		event(14, 17, nil, 3),
		event(15, 16, nil, 1),
		event(16, 6, nil, 2),
	)
	for i := range l {
		l[i].ID = i + 1
	}
	for id, want := range map[int][]int{
		0: nil,
		1: {3, 3, 3, 6, 8, 8, 8, 7, 7, 8, 1, 1},
		2: {3, 3, 3, 3, 3, 3, 3, 3, 3, 3, 6},
		3: {3, 3, 6, 6, 9, 9, 9, 2, 2, 2},
		4: nil,
	} {
		got, e := registry.History(l, id)
		var kinds []int
		for _, v := range got {
			kinds = append(kinds, v.Kind)
			if v.File != id || v.Kind == api.VerdictHold && !slices.Equal(v.Holds, []int{1}) {
				t.Error(v)
			}
		}
		if e != api.OK || !slices.Equal(kinds, want) {
			t.Error(id, e, kinds)
		}
	}
	if v, _ := registry.History(l, 1); v[0].Day != 4 || v[7].Day != 12 || v[11].Day != 16 {
		t.Error(v)
	}
	l[18].Numbers = []int{1}
	for _, id := range []int{1, 2, 4} {
		if h, e := registry.History(l, id); e != api.ErrState || len(h) != 0 {
			t.Error(h, e)
		}
	}
}

// P15.3: Gone, for any registry.
func TestGone(t *testing.T) {
	r := api.Registry{
		Certificates: []api.Certificate{{Day: 90, Files: []int{9, 2}}, {Day: math.MinInt, Files: []int{3, 0}}, {Day: 7, Files: []int{2, 5}}, {Number: -1, Day: math.MaxInt, Files: []int{6, 6}}},
		Departures:   []api.Departure{{File: 5, Day: 3}, {File: 8, Day: 40}, {File: 8, Day: 30}, {File: -4, Day: math.MaxInt}, {File: 7}},
		Changed:      -3,
	}
	for id, want := range map[int]int{9: 90, 2: 90, 3: math.MinInt, 0: math.MinInt, 5: 7, 6: math.MaxInt, 8: 40, -4: math.MaxInt, 7: 0} {
		if day, ok := registry.Gone(r, id); day != want || !ok {
			t.Error(id, day, ok)
		}
	}
	for _, id := range []int{1, 4, -1, 90, math.MaxInt, math.MinInt} {
		if day, ok := registry.Gone(r, id); day != 0 || ok {
			t.Error(id, day, ok)
		}
	}
	if day, ok := registry.Gone(full(), 2); day != 18 || !ok {
		t.Error(day, ok)
	}
	if day, ok := registry.Gone(full(), 4); day != 19 || !ok {
		t.Error(day, ok)
	}
	if day, ok := registry.Gone(full(), 6); day != 0 || ok {
		t.Error(day, ok)
	}
}

// P15.4, P5: what a registry says about the days before is what the registry of those days said, behind all their events.
func TestDaysBefore(t *testing.T) {
	rnd := rand.New(rand.NewSource(17))
	for range 25 {
		l := run(t, rnd, 50, map[string]int{})
		today, _, _ := registry.Fold(l)
		for day := range today.Changed + 1 {
			then, i, e := registry.On(l, day)
			if i != -1 || e != api.OK {
				t.Fatal(i, e)
			}
			for _, f := range today.Files {
				v, e := verdict.On(then, f.ID, day)
				w, _ := verdict.On(today, f.ID, day)
				if e == api.ErrNotFound {
					// it is opened later
					v = api.Verdict{File: f.ID, Day: day}
				}
				if !reflect.DeepEqual(v, w) {
					t.Fatalf("%+v %d %v %v", l, day, v, w)
				}
			}
		}
	}
}

// P15.4, P3: what has gone had two approvals, and its verdict was the right one behind all events of the day before it went.
func TestNothingGoesUnexplained(t *testing.T) {
	rnd := rand.New(rand.NewSource(18))
	destroyed, transferred := 0, 0
	for range 60 {
		l := run(t, rnd, 60, map[string]int{})
		for i, e := range l {
			if e.Kind != 16 && e.Kind != 17 {
				continue
			}
			before, _, _ := registry.Fold(l[:i])
			after, _, _ := registry.Fold(l[:i+1])
			want := api.VerdictDestroy
			files := []int{e.Numbers[0]}
			if e.Kind == 16 {
				files = after.Certificates[len(after.Certificates)-1].Files
				destroyed++
			} else {
				want = api.VerdictTransfer
				transferred++
			}
			for _, id := range files {
				if v, e := verdict.On(before, id, e.Day); v.Kind != want || e != api.OK {
					t.Fatalf("%+v %d %v", l, i, v)
				}
				if day, ok := registry.Gone(after, id); day != e.Day || !ok {
					t.Fatalf("%+v %d %v", l, i, day)
				}
			}
		}
	}
	if destroyed < 10 || transferred < 10 {
		t.Error(destroyed, transferred)
	}
}

// scramble changes all numbers and texts that lists below a value contain, also those behind the ends of lists.
func scramble(v reflect.Value) {
	switch v.Kind() {
	case reflect.Struct:
		for i := range v.NumField() {
			scramble(v.Field(i))
		}
	case reflect.Slice:
		whole := v.Slice3(0, v.Cap(), v.Cap())
		for i := range whole.Len() {
			scramble(whole.Index(i))
		}
	case reflect.Int:
		v.SetInt(-77)
	case reflect.String:
		v.SetString("?")
	case reflect.Bool:
		v.SetBool(true)
	}
}

// roomy returns a copy of a value, whose lists have room behind their ends.
func roomy(v reflect.Value) reflect.Value {
	copied := reflect.New(v.Type()).Elem()
	copied.Set(v)
	switch v.Kind() {
	case reflect.Struct:
		for i := range v.NumField() {
			copied.Field(i).Set(roomy(v.Field(i)))
		}
	case reflect.Slice:
		copied.Set(reflect.MakeSlice(v.Type(), v.Len(), v.Len()+3))
		for i := range v.Len() {
			copied.Index(i).Set(roomy(v.Index(i)))
		}
	}
	return copied
}

// whole is the text of a value with what is behind the ends of its lists.
func whole(v reflect.Value) string {
	text := ""
	switch v.Kind() {
	case reflect.Struct:
		for i := range v.NumField() {
			text += whole(v.Field(i)) + ","
		}
	case reflect.Slice:
		all := v.Slice3(0, v.Cap(), v.Cap())
		for i := range all.Len() {
			text += whole(all.Index(i)) + ";"
		}
	case reflect.Int:
		text = strconv.FormatInt(v.Int(), 10)
	default:
		text = fmt.Sprint(v.Interface())
	}
	return text
}

// P15.1: arguments are not modified, and results share no memory with them.
func TestMemory(t *testing.T) {
	for i, x := range append(all(), known{e: event(30, 14, nil, 3, 3)}) {
		r := roomy(reflect.ValueOf(approved())).Interface().(api.Registry)
		if x.e.Kind == 14 {
			r = roomy(reflect.ValueOf(full())).Interface().(api.Registry)
		}
		e := roomy(reflect.ValueOf(x.e)).Interface().(api.Event)
		before, entered := whole(reflect.ValueOf(r)), whole(reflect.ValueOf(e))
		got, fault := registry.Apply(r, e)
		if fault != api.OK {
			t.Error(i, fault)
		}
		scramble(reflect.ValueOf(&got).Elem())
		if whole(reflect.ValueOf(r)) != before || whole(reflect.ValueOf(e)) != entered {
			t.Error(i, "an argument is modified")
		}
	}
}

// P15.2, P15.3: the same for lists of events; results do not share memory with each other either.
func TestMemoryOfLists(t *testing.T) {
	rnd := rand.New(rand.NewSource(19))
	l := roomy(reflect.ValueOf(run(t, rnd, 200, map[string]int{}))).Interface().([]api.Event)
	before := whole(reflect.ValueOf(l))
	first, _, e := registry.Fold(l)
	second, _, _ := registry.Fold(l)
	third, _, _ := registry.On(l, api.MaxDay)
	want := fmt.Sprintf("%+v", first)
	if e != api.OK || len(first.Certificates) == 0 || len(first.Selections) == 0 || len(first.Plans) < 2 {
		t.Fatal(e, want)
	}
	scramble(reflect.ValueOf(&first).Elem())
	if fmt.Sprintf("%+v", second) != want || fmt.Sprintf("%+v", third) != want {
		t.Error("a result is modified")
	}
	scramble(reflect.ValueOf(&third).Elem())
	for id := range 20 {
		h, _ := registry.History(l, id)
		again, _ := registry.History(l, id)
		text := fmt.Sprint(again)
		scramble(reflect.ValueOf(&h).Elem())
		if fmt.Sprint(again) != text {
			t.Error("a history is modified")
		}
	}
	if whole(reflect.ValueOf(l)) != before {
		t.Error("an event is modified")
	}
}
