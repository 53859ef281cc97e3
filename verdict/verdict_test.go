package verdict_test

import (
	"math"
	"math/rand"
	"reflect"
	"slices"
	"testing"

	"archivum/api"
	"archivum/file"
	"archivum/hold"
	"archivum/rule"
	"archivum/timeline"
	"archivum/verdict"
)

var always = api.Span{From: 0, Until: api.Forever}

// example returns the registry of the chapter's example, with the hold.
func example() api.Registry {
	return api.Registry{
		Offices: []api.Office{{ID: 1, Name: "Mills", In: always}},
		Plans:   []api.Plan{{Version: 1, In: always, Classes: []api.Class{{Code: "1", Title: "Mills"}, {Code: "1.1", Title: "Letters"}}}},
		Files:   []api.File{{ID: 7, Office: 1, Opened: 5, Closed: 10, Class: "1.1", Title: "Letters"}},
		Rules:   []api.Rule{{ID: 3, Class: "1", Trigger: "closed", Action: api.ActionDestroy, In: always}},
		Holds:   []api.Hold{{ID: 2, Kind: api.HoldFile, Of: 7, Reason: "Inquiry", In: api.Span{From: 12, Until: 20}}},
	}
}

// base returns a registry without files, rules and holds: the office 1 is followed by 2 on day 40 and by 3 on day 80; the classes change on days 30 and 60, and have ended on day 110.
func base() api.Registry {
	r := api.Registry{
		Offices: []api.Office{
			{ID: 1, Name: "Mills", In: api.Span{From: 0, Until: 40}, Next: []int{2}},
			{ID: 2, Name: "Works", In: api.Span{From: 40, Until: 80}, Next: []int{3}},
			{ID: 3, Name: "Water", In: api.Span{From: 80, Until: api.Forever}},
		},
		Plans: []api.Plan{
			{Version: 1, In: api.Span{From: 0, Until: 30}},
			{Version: 2, In: api.Span{From: 30, Until: 60}, Moved: []api.Moved{{From: "2", To: "1.1"}}},
			{Version: 3, In: api.Span{From: 60, Until: 110}, Moved: []api.Moved{{From: "1.1", To: "3"}}},
		},
	}
	for i, codes := range [][]string{{"1", "1.1", "1.1.1", "2"}, {"1", "1.1", "3"}, {"1", "3"}} {
		for _, c := range codes {
			r.Plans[i].Classes = append(r.Plans[i].Classes, api.Class{Code: c, Title: "Class " + c})
		}
	}
	return r
}

func pick[T any](r *rand.Rand, l ...T) T { return l[r.Intn(len(l))] }

// someSpan returns a span with its ends among the first 120 days, or without an end.
func someSpan(r *rand.Rand) api.Span {
	from := r.Intn(100)
	return api.Span{From: from, Until: pick(r, from+1, from+1+r.Intn(50), api.Forever)}
}

func someFile(r *rand.Rand, id int) api.File {
	opened := r.Intn(25)
	f := api.File{ID: id, Office: 1, Opened: opened, Closed: pick(r, opened, opened+r.Intn(60), opened+r.Intn(60), api.Forever), Class: pick(r, "1", "1.1", "1.1.1", "2"), Title: "Letters"}
	recorded := opened
	for range r.Intn(4) {
		recorded += r.Intn(30)
		first := r.Intn(90)
		f.Notes = append(f.Notes, api.Note{Name: pick(r, "paid", "lost"), Day: api.Dating{First: first, Last: first + r.Intn(30)}, Recorded: recorded})
	}
	return f
}

func someRule(r *rand.Rand, id int) api.Rule {
	x := api.Rule{ID: id, Class: pick(r, "1", "1", "1.1", "2", "3"), Trigger: pick(r, "opened", "closed", "paid", "lost"), Action: pick(r, api.ActionDestroy, api.ActionDestroy, api.ActionTransfer), In: someSpan(r)}
	switch r.Intn(12) {
	case 0:
		x.Years = 1
	case 1:
		x.YearEnd = true
	case 2:
		x.Action, x.Trigger = api.ActionKeep, "opened"
	}
	return x
}

func someHold(r *rand.Rand, id int) api.Hold {
	h := api.Hold{ID: id, Kind: 1 + r.Intn(3), Reason: "Inquiry", In: someSpan(r)}
	switch h.Kind {
	case api.HoldClass:
		h.Class = pick(r, "1", "1.1", "3")
	default:
		h.Of = 1 + r.Intn(4)
	}
	return h
}

// some returns a registry without a fault.
func some(r *rand.Rand) api.Registry {
	x := base()
	for range 1 + r.Intn(4) {
		x.Files = append(x.Files, someFile(r, 2*len(x.Files)+1))
	}
	for range r.Intn(7) {
		x.Rules = append(x.Rules, someRule(r, 3*len(x.Rules)+2))
	}
	for range r.Intn(5) {
		x.Holds = append(x.Holds, someHold(r, 5*len(x.Holds)+4))
	}
	day := 0
	for range r.Intn(4) {
		day += r.Intn(60)
		x.Selections = append(x.Selections, api.Selection{Sample: 1 + r.Intn(9), Day: day, Files: someIDs(r, x.Files)})
	}
	// Only some files are gone at the end, each one once.
	gone := someIDs(r, x.Files)
	day = 0
	for i, id := range gone {
		day += r.Intn(90)
		if r.Intn(2) == 0 {
			x.Departures = append(x.Departures, api.Departure{File: id, Day: day})
		} else {
			x.Certificates = append(x.Certificates, api.Certificate{Number: i + 1, Day: day, Files: []int{id}})
		}
	}
	return x
}

// someIDs returns the IDs of some files.
func someIDs(r *rand.Rand, files []api.File) []int {
	var ids []int
	for _, f := range files {
		if r.Intn(3) == 0 {
			ids = append(ids, f.ID)
		}
	}
	return ids
}

// applying returns the rules that apply to a file on a day.
func applying(r api.Registry, f api.File, day int) []api.Rule {
	class, e := file.Class(r.Plans, f, day)
	if e != api.OK {
		return nil
	}
	var rules []api.Rule
	for _, id := range rule.Apply(r.Rules, class, day) {
		for _, x := range r.Rules {
			if x.ID == id {
				rules = append(rules, x)
			}
		}
	}
	return rules
}

// entered reports whether something was entered about a file on a day or before.
func entered(n int, at func(i int) (day int, files []int), id, by int) bool {
	for i := range n {
		if day, files := at(i); day <= by && slices.Contains(files, id) {
			return true
		}
	}
	return false
}

func isDestroyed(r api.Registry, id, by int) bool {
	return entered(len(r.Certificates), func(i int) (int, []int) { return r.Certificates[i].Day, r.Certificates[i].Files }, id, by)
}

func isTransferred(r api.Registry, id, by int) bool {
	return entered(len(r.Departures), func(i int) (int, []int) { return r.Departures[i].Day, []int{r.Departures[i].File} }, id, by)
}

func isSelected(r api.Registry, id, by int) bool {
	return entered(len(r.Selections), func(i int) (int, []int) { return r.Selections[i].Day, r.Selections[i].Files }, id, by)
}

// verdictOn is the verdict by its definition.
func verdictOn(r api.Registry, f api.File, day int) api.Verdict {
	v := api.Verdict{File: f.ID, Day: day}
	rules := applying(r, f, day)
	switch {
	case day < f.Opened:
		return v
	case isDestroyed(r, f.ID, day):
		v.Kind = 1
		return v
	case isTransferred(r, f.ID, day):
		v.Kind = 2
		return v
	case len(rules) == 0:
		return v
	case day < f.Closed:
		v.Kind = 3
		return v
	}
	for _, x := range rules {
		if x.Action == 3 {
			v.Kind, v.Rule = 4, x.ID
			return v
		}
	}
	v.Due = -1
	for _, x := range rules {
		start, ok := file.Trigger(f, x.Trigger, day)
		if !ok {
			v.Kind, v.Rule, v.Due = 5, x.ID, 0
			return v
		}
		if due, _ := rule.Due(x, start); due > v.Due {
			v.Rule, v.Due = x.ID, due
		}
	}
	v.Holds = hold.Holding(r.Offices, r.Plans, r.Holds, f, day)
	switch {
	case day <= v.Due:
		v.Kind, v.Holds = 6, nil
	case len(v.Holds) > 0:
		v.Kind = 7
	case isSelected(r, f.ID, day) || slices.ContainsFunc(rules, func(x api.Rule) bool { return x.Action == 2 }):
		v.Kind = 9
	default:
		v.Kind = 8
	}
	return v
}

func isSame(a, b api.Verdict) bool {
	holds := slices.Equal(a.Holds, b.Holds)
	a.Holds, b.Holds = nil, nil
	return holds && reflect.DeepEqual(a, b)
}

// days are the first ones, among them all on which something changes but for due days, and some beyond.
func days(r *rand.Rand) []int {
	l := []int{365, 366, 400, 1000, api.MaxDay - 1, api.MaxDay}
	for d := range 160 {
		l = append(l, d)
	}
	for range 30 {
		l = append(l, r.Intn(600))
	}
	return l
}

// P11.2: the example of the chapter.
func TestExample(t *testing.T) {
	r := example()
	free := example()
	free.Holds = nil
	for d := range 40 {
		kind, due, rule := api.VerdictDestroy, 10, 3
		var holds []int
		switch {
		case d < 5:
			kind, due, rule = api.VerdictNone, 0, 0
		case d < 10:
			kind, due, rule = api.VerdictOpen, 0, 0
		case d == 10:
			kind = api.VerdictKeep
		}
		want := api.Verdict{Kind: kind, File: 7, Day: d, Rule: rule, Due: due}
		if v, e := verdict.On(free, 7, d); e != api.OK || !isSame(v, want) {
			t.Error(v, e, want)
		}
		if 12 <= d && d < 20 {
			want.Kind, holds = api.VerdictHold, []int{2}
		}
		want.Holds = holds
		if v, e := verdict.On(r, 7, d); e != api.OK || !isSame(v, want) {
			t.Error(v, e, want)
		}
	}
}

// P11.2: each row of the table counts ahead of those behind it; the changes make them apply, from the last row to the first one.
func TestRows(t *testing.T) {
	r := example()
	r.Holds = nil
	more := func(id int, x api.Rule) {
		x.ID, x.Class, x.In = id, "1", always
		r.Rules = append(r.Rules, x)
	}
	for i, x := range []struct {
		change func()
		want   api.Verdict
	}{
		{func() {}, api.Verdict{Kind: api.VerdictDestroy, Rule: 3, Due: 10}},
		{func() { r.Selections = []api.Selection{{Sample: 1, Day: 20, Files: []int{7}}} }, api.Verdict{Kind: api.VerdictTransfer, Rule: 3, Due: 10}},
		{func() { r.Selections[0].Day = 21 }, api.Verdict{Kind: api.VerdictDestroy, Rule: 3, Due: 10}},
		{func() { more(4, api.Rule{Trigger: "opened", Action: api.ActionTransfer}) }, api.Verdict{Kind: api.VerdictTransfer, Rule: 3, Due: 10}},
		{func() { more(5, api.Rule{Trigger: "closed", Action: api.ActionDestroy}) }, api.Verdict{Kind: api.VerdictTransfer, Rule: 3, Due: 10}},
		{func() {
			r.Holds = []api.Hold{{ID: 6, Kind: api.HoldClass, Class: "1", Reason: "R", In: always}, {ID: 8, Kind: api.HoldFile, Of: 9, Reason: "R", In: always}, {ID: 9, Kind: api.HoldOffice, Of: 1, Reason: "R", In: always}}
		}, api.Verdict{Kind: api.VerdictHold, Rule: 3, Due: 10, Holds: []int{6, 9}}},
		{func() { more(7, api.Rule{Trigger: "closed", Years: 1, Action: api.ActionDestroy}) }, api.Verdict{Kind: api.VerdictKeep, Rule: 7, Due: 376}},
		{func() { more(8, api.Rule{Trigger: "closed", Years: 1, Action: api.ActionDestroy}) }, api.Verdict{Kind: api.VerdictKeep, Rule: 7, Due: 376}},
		{func() { more(9, api.Rule{Trigger: "paid", Years: 2, Action: api.ActionDestroy}) }, api.Verdict{Kind: api.VerdictWait, Rule: 9}},
		{func() { more(10, api.Rule{Trigger: "lost", Action: api.ActionTransfer}) }, api.Verdict{Kind: api.VerdictWait, Rule: 9}},
		{func() { more(11, api.Rule{Trigger: "opened", Action: api.ActionKeep}) }, api.Verdict{Kind: api.VerdictForever, Rule: 11}},
		{func() { more(12, api.Rule{Trigger: "opened", Action: api.ActionKeep}) }, api.Verdict{Kind: api.VerdictForever, Rule: 11}},
		{func() { r.Files[0].Closed = 21 }, api.Verdict{Kind: api.VerdictOpen}},
		{func() { r.Files[0].Closed = api.Forever }, api.Verdict{Kind: api.VerdictOpen}},
		{func() { r.Plans[0].In.Until = 20 }, api.Verdict{}},
		{func() { r.Departures = []api.Departure{{File: 7, Day: 20}} }, api.Verdict{Kind: api.VerdictMoved}},
		{func() { r.Departures[0].Day = 21 }, api.Verdict{}},
		{func() {
			r.Certificates, r.Departures = []api.Certificate{{Number: 1, Day: 20, Files: []int{7}}}, nil
		}, api.Verdict{Kind: api.VerdictGone}},
		{func() { r.Certificates[0].Day = 21 }, api.Verdict{}},
		{func() { r.Certificates[0].Day, r.Plans[0].In.Until, r.Files[0].Opened = 3, api.Forever, 21 }, api.Verdict{}},
	} {
		x.change()
		x.want.File, x.want.Day = 7, 20
		if v, e := verdict.On(r, 7, 20); e != api.OK || !isSame(v, x.want) {
			t.Error(i, v, e, x.want)
		}
	}
}

// P11.2: On and Due for many registries, on all days.
func TestOnAndDue(t *testing.T) {
	rnd := rand.New(rand.NewSource(1))
	seen := map[int]int{}
	for range 100 {
		r := some(rnd)
		for _, d := range days(rnd) {
			of := map[int][]int{}
			for _, f := range r.Files {
				want := verdictOn(r, f, d)
				of[want.Kind] = append(of[want.Kind], f.ID)
				seen[want.Kind]++
				if v, e := verdict.On(r, f.ID, d); e != api.OK || !isSame(v, want) {
					t.Fatalf("%+v %v %v %+v", r, v, e, want)
				}
			}
			kind := rnd.Intn(10)
			if ids, e := verdict.Due(r, kind, d); e != api.OK || !slices.Equal(ids, of[kind]) {
				t.Fatalf("%+v %v %v %v %v", r, kind, d, ids, e)
			}
		}
	}
	for kind := range 10 {
		if seen[kind] < 50 {
			t.Error("too few verdicts", kind, seen[kind])
		}
	}
}

// lineOf is the timeline of the kinds by its definition.
func lineOf(r api.Registry, f api.File, in api.Span) []api.Piece {
	var l []api.Piece
	for d := in.From; d < in.Until; d++ {
		kind := verdictOn(r, f, d).Kind
		if n := len(l); n > 0 && l[n-1].Value == kind {
			l[n-1].In.Until = d + 1
		} else {
			l = append(l, api.Piece{In: api.Span{From: d, Until: d + 1}, Value: kind})
		}
	}
	return l
}

// P11.3: Line has the kind of each day of the span, in the fewest pieces.
func TestLine(t *testing.T) {
	rnd := rand.New(rand.NewSource(2))
	for range 60 {
		r := some(rnd)
		f := pick(rnd, r.Files...)
		whole := lineOf(r, f, api.Span{From: 0, Until: 760})
		for i := range 30 {
			in := api.Span{From: rnd.Intn(130), Until: 0}
			in.Until = pick(rnd, in.From+1, in.From+1+rnd.Intn(60), 760)
			if i == 0 {
				in = api.Span{From: 0, Until: 760}
			}
			l, e := verdict.Line(r, f.ID, in)
			var want []api.Piece
			for _, p := range whole {
				p.In.From, p.In.Until = max(p.In.From, in.From), min(p.In.Until, in.Until)
				if p.In.From < p.In.Until {
					want = append(want, p)
				}
			}
			if e != api.OK || timeline.Check(l) != api.OK || !slices.Equal(l, want) {
				t.Fatalf("%+v %v %v %v %v", r, in, l, e, want)
			}
		}
		if l, e := verdict.Line(r, f.ID, always); e != api.OK || l[len(l)-1].In.Until != api.Forever {
			t.Fatalf("%+v %v %v", r, l, e)
		}
	}
}

// P11.3: the whole timeline of the example.
func TestLineExample(t *testing.T) {
	l, e := verdict.Line(example(), 7, always)
	var want []api.Piece
	for i, kind := range []int{api.VerdictNone, api.VerdictOpen, api.VerdictKeep, api.VerdictDestroy, api.VerdictHold, api.VerdictDestroy} {
		bounds := []int{0, 5, 10, 11, 12, 20, api.Forever}
		want = append(want, api.Piece{In: api.Span{From: bounds[i], Until: bounds[i+1]}, Value: kind})
	}
	if e != api.OK || !slices.Equal(l, want) {
		t.Error(l, e)
	}
}

// P11.3: Turns returns the next day with another kind.
func TestTurns(t *testing.T) {
	rnd := rand.New(rand.NewSource(3))
	turned := map[bool]int{}
	for range 60 {
		r := some(rnd)
		f := pick(rnd, r.Files...)
		// Nothing happens behind these days in these registries.
		whole := lineOf(r, f, api.Span{From: 0, Until: 760})
		for range 60 {
			d := rnd.Intn(200)
			want, ok := 0, false
			for _, p := range whole {
				if p.In.From > d {
					want, ok = p.In.From, true
					break
				}
			}
			turned[ok]++
			if got, found, e := verdict.Turns(r, f.ID, d); got != want || found != ok || e != api.OK {
				t.Fatalf("%+v %v %v %v %v", r, d, got, found, e)
			}
		}
	}
	if turned[true] < 100 || turned[false] < 100 {
		t.Error(turned)
	}
}

// P11.3: due days far away, at the end of all days, and never.
func TestTurnsLate(t *testing.T) {
	r := example()
	r.Holds = nil
	for i, x := range []struct {
		closed, years, day int
		want               int
		ok                 bool
	}{
		{api.MaxDay - 1, 0, 9, api.MaxDay - 1, true},
		{api.MaxDay - 1, 0, api.MaxDay - 1, api.MaxDay, true},
		{api.MaxDay - 1, 0, api.MaxDay, 0, false},
		{api.MaxDay, 0, api.MaxDay - 1, api.MaxDay, true},
		{api.MaxDay, 0, api.MaxDay, 0, false},
		{api.MaxDay - 1, 1, api.MaxDay - 1, 0, false},
		{api.MaxDay - 100, 200, api.MaxDay - 100, 0, false},
		{api.Forever, 0, 4, 5, true},
		{api.Forever, 0, 5, 0, false},
		{10, 200, 10, 73060, true},
		{10, 200, 73058, 73060, true},
		{10, 200, 73059, 73060, true},
		{10, 200, 73060, 0, false},
	} {
		r.Files[0].Closed, r.Rules[0].Years = x.closed, x.years
		if got, ok, e := verdict.Turns(r, 7, x.day); got != x.want || ok != x.ok || e != api.OK {
			t.Error(i, got, ok, e)
		}
	}
}

// P11.3: nothing is without an end, and the last change is on the last day of all.
func TestLastDay(t *testing.T) {
	r := example()
	r.Offices[0].In.Until, r.Plans[0].In.Until, r.Rules[0].In.Until = 50, 60, 40
	want := []api.Piece{{In: api.Span{From: 20, Until: 40}, Value: api.VerdictDestroy}, {In: api.Span{From: 40, Until: api.Forever}, Value: api.VerdictNone}}
	if l, e := verdict.Line(r, 7, api.Span{From: 20, Until: api.Forever}); e != api.OK || !slices.Equal(l, want) {
		t.Error(l, e)
	}
	if d, ok, e := verdict.Turns(r, 7, api.MaxDay); d != 0 || ok || e != api.OK {
		t.Error(d, ok, e)
	}
	r.Departures = []api.Departure{{File: 7, Day: api.MaxDay}}
	if d, ok, e := verdict.Turns(r, 7, 40); d != api.MaxDay || !ok || e != api.OK {
		t.Error(d, ok, e)
	}
	want[1].In.Until = api.MaxDay
	want = append(want, api.Piece{In: api.Span{From: api.MaxDay, Until: api.Forever}, Value: api.VerdictMoved})
	if l, e := verdict.Line(r, 7, api.Span{From: 20, Until: api.Forever}); e != api.OK || !slices.Equal(l, want) {
		t.Error(l, e)
	}
}

// P11.2, P11.3: the errors of On, Turns, Line and Due, in their order.
func TestErrors(t *testing.T) {
	faulty := example()
	faulty.Holds[0].Reason = ""
	for i, x := range []struct {
		r         api.Registry
		file, day int
		e         api.Errno
	}{
		{faulty, 8, -1, api.ErrArg},
		{faulty, 7, 5, api.ErrArg},
		{example(), 8, -1, api.ErrNotFound},
		{example(), 0, 5, api.ErrNotFound},
		{api.Registry{}, 7, 5, api.ErrNotFound},
		{example(), 7, -1, api.ErrRange},
		{example(), 7, api.MaxDay + 1, api.ErrRange},
		{example(), 7, math.MinInt, api.ErrRange},
		{example(), 7, math.MaxInt, api.ErrRange},
		{example(), 7, 0, api.OK},
		{example(), 7, api.MaxDay, api.OK},
	} {
		v, e := verdict.On(x.r, x.file, x.day)
		if e != x.e || e != api.OK && !isSame(v, api.Verdict{}) {
			t.Error(i, v, e)
		}
		d, ok, e := verdict.Turns(x.r, x.file, x.day)
		if e != x.e || e != api.OK && (d != 0 || ok) {
			t.Error(i, d, ok, e)
		}
	}
	for i, x := range []struct {
		r    api.Registry
		file int
		in   api.Span
		e    api.Errno
	}{
		{faulty, 8, api.Span{}, api.ErrArg},
		{example(), 8, api.Span{}, api.ErrNotFound},
		{example(), 7, api.Span{}, api.ErrRange},
		{example(), 7, api.Span{From: -1, Until: 5}, api.ErrRange},
		{example(), 7, api.Span{From: 5, Until: 5}, api.ErrRange},
		{example(), 7, api.Span{From: 6, Until: 5}, api.ErrRange},
		{example(), 7, api.Span{From: 5, Until: api.Forever + 1}, api.ErrRange},
		{example(), 7, api.Span{From: math.MinInt, Until: math.MaxInt}, api.ErrRange},
		{example(), 7, api.Span{From: api.MaxDay, Until: api.Forever}, api.OK},
		{example(), 7, api.Span{From: 0, Until: 1}, api.OK},
	} {
		if l, e := verdict.Line(x.r, x.file, x.in); e != x.e || e != api.OK && len(l) != 0 {
			t.Error(i, l, e)
		}
	}
	for i, x := range []struct {
		r         api.Registry
		kind, day int
		e         api.Errno
	}{
		{faulty, -1, -1, api.ErrArg},
		{faulty, 8, 5, api.ErrArg},
		{example(), -1, 5, api.ErrRange},
		{example(), 10, 15, api.ErrRange},
		{example(), math.MinInt, 5, api.ErrRange},
		{example(), math.MaxInt, 5, api.ErrRange},
		{example(), 0, -1, api.ErrRange},
		{example(), 8, api.MaxDay + 1, api.ErrRange},
		{example(), 0, 0, api.OK},
		{example(), 9, api.MaxDay, api.OK},
		{api.Registry{}, 0, 0, api.OK},
	} {
		l, e := verdict.Due(x.r, x.kind, x.day)
		if e != x.e || e != api.OK && len(l) != 0 {
			t.Error(i, l, e)
		}
	}
}

// P11.4: a further hold, a longer period and a further rule of the same class never permit a destruction.
func TestNothingMorePermits(t *testing.T) {
	rnd := rand.New(rand.NewSource(4))
	before, after := 0, 0
	for range 600 {
		r := some(rnd)
		stricter := tighten(rnd, r)
		if e := verdict.Check(stricter); e != api.OK {
			t.Fatalf("%+v %v", stricter, e)
		}
		for range 20 {
			id, d := pick(rnd, r.Files...).ID, rnd.Intn(160)
			v, _ := verdict.On(r, id, d)
			w, _ := verdict.On(stricter, id, d)
			if v.Kind == api.VerdictDestroy {
				before++
			}
			if w.Kind == api.VerdictDestroy {
				after++
				if v.Kind != api.VerdictDestroy {
					t.Fatalf("%+v %+v %v %v", r, stricter, v, w)
				}
			}
		}
	}
	if after < 100 || before < after+20 {
		t.Error(before, after)
	}
}

// tighten returns a registry with a further hold, a longer period, or a further rule.
func tighten(rnd *rand.Rand, r api.Registry) api.Registry {
	r.Rules, r.Holds = slices.Clone(r.Rules), slices.Clone(r.Holds)
	if len(r.Rules) == 0 || rnd.Intn(3) == 0 {
		r.Holds = append(r.Holds, someHold(rnd, 99))
		return r
	}
	i := rnd.Intn(len(r.Rules))
	x := r.Rules[i]
	if x.Action != api.ActionKeep && rnd.Intn(2) == 0 {
		r.Rules[i].Years += rnd.Intn(3)
		r.Rules[i].YearEnd = true
		return r
	}
	further := someRule(rnd, 99)
	// On other days it could hide rules of classes further up.
	further.Class, further.In = x.Class, x.In
	r.Rules = append(r.Rules, further)
	return r
}

// P11.4: destruction needs that all rules permit it, that the time of all of them has passed, and that no hold covers the file.
func TestDestructionNeedsAll(t *testing.T) {
	rnd := rand.New(rand.NewSource(5))
	n := 0
	for range 1500 {
		r := some(rnd)
		for _, f := range r.Files {
			d := rnd.Intn(160)
			if v, _ := verdict.On(r, f.ID, d); v.Kind != api.VerdictDestroy {
				continue
			}
			n++
			rules := applying(r, f, d)
			for _, x := range rules {
				start, ok := file.Trigger(f, x.Trigger, d)
				due, _ := rule.Due(x, start)
				if x.Action != api.ActionDestroy || !ok || d <= due {
					t.Fatalf("%+v %v %v %v", r, f.ID, d, x)
				}
			}
			if len(rules) == 0 || len(hold.Holding(r.Offices, r.Plans, r.Holds, f, d)) > 0 {
				t.Fatalf("%+v %v %v", r, f.ID, d)
			}
		}
	}
	if n < 30 {
		t.Error(n)
	}
}

// P11.4: notes that are recorded later change no verdict.
func TestLaterNotes(t *testing.T) {
	rnd := rand.New(rand.NewSource(6))
	turned := 0
	for range 400 {
		r := some(rnd)
		i := rnd.Intn(len(r.Files))
		f := r.Files[i]
		recorded := f.Opened + rnd.Intn(40)
		for _, n := range f.Notes {
			recorded = max(recorded, n.Recorded)
		}
		day := rnd.Intn(100)
		files, e := file.Add(r.Files, f.ID, api.Note{Name: pick(rnd, "paid", "lost"), Day: api.Dating{First: day, Last: day + rnd.Intn(50)}, Recorded: recorded})
		later := r
		later.Files = files
		if e != api.OK || verdict.Check(later) != api.OK {
			t.Fatalf("%+v %v", later, e)
		}
		for d := range 160 {
			v, _ := verdict.On(r, f.ID, d)
			w, _ := verdict.On(later, f.ID, d)
			if !isSame(v, w) {
				turned++
			}
			if d < recorded && !isSame(v, w) {
				t.Fatalf("%+v %+v %v %v", r, later, v, w)
			}
		}
	}
	if turned < 100 {
		t.Error(turned)
	}
}

// P11.1, P11.2, P11.3: arguments are not modified, and results share no memory with them.
func TestMemory(t *testing.T) {
	rnd := rand.New(rand.NewSource(7))
	for seed := range int64(20) {
		r, same := some(rand.New(rand.NewSource(seed))), some(rand.New(rand.NewSource(seed)))
		verdict.Check(r)
		for _, f := range r.Files {
			d := rnd.Intn(160)
			verdict.On(r, f.ID, d)
			verdict.Line(r, f.ID, always)
			verdict.Turns(r, f.ID, d)
			verdict.Due(r, rnd.Intn(10), d)
		}
		if !reflect.DeepEqual(r, same) {
			t.Fatal(r, same)
		}
	}
	a, _ := verdict.On(example(), 7, 15)
	b, _ := verdict.On(example(), 7, 15)
	a.Holds[0] = 99
	if b.Holds[0] != 2 {
		t.Error(b)
	}
}
