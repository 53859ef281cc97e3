package rule_test

import (
	"math"
	"math/rand"
	"slices"
	"strings"
	"testing"
	"time"

	"archivum/api"
	"archivum/day"
	"archivum/rule"
)

// start is day 0.
var start = time.Date(1600, 1, 1, 0, 0, 0, 0, time.UTC)

// dayOf returns the day with a date.
func dayOf(date string) int {
	d, e := day.Parse(date)
	if e != api.OK {
		panic(date)
	}
	return d
}

// one returns the rule of the chapter's example with another ID.
func one(id int) api.Rule {
	return api.Rule{ID: id, Class: "3.1", Trigger: "closed", Years: 10, YearEnd: true, Action: api.ActionDestroy, In: api.Span{From: dayOf("1990-01-01"), Until: dayOf("2005-01-01")}}
}

// keep returns a rule by which files are kept for ever.
func keep(id int, class string) api.Rule {
	return api.Rule{ID: id, Class: class, Trigger: "opened", Action: api.ActionKeep, In: api.Span{From: 5, Until: api.Forever}}
}

// some returns four rules without a fault.
func some() []api.Rule {
	paid := api.Rule{ID: 20, Class: "3.1.4", Trigger: "last payment", Action: api.ActionTransfer, In: api.Span{From: 0, Until: api.Forever}}
	return []api.Rule{one(12), one(13), paid, keep(21, "7")}
}

// isCode says what a class code is.
func isCode(s string) bool {
	numbers := strings.Split(s, ".")
	return len(numbers) <= 6 && !slices.ContainsFunc(numbers, func(n string) bool {
		return n == "" || len(n) > 3 || n[0] == '0' || strings.Trim(n, "0123456789") != ""
	})
}

// isWithin says whether a class code is another one or below it.
func isWithin(c, above string) bool {
	return isCode(c) && isCode(above) && strings.HasPrefix(c+".", above+".")
}

// isName says what a name is.
func isName(s string) bool {
	if s == "" || len(s) > 64 || strings.Join(strings.Fields(s), " ") != s {
		return false
	}
	for _, b := range []byte(s) {
		if b < 32 || b > 126 {
			return false
		}
	}
	return true
}

// faultOf returns the first fault of a rule behind one with an ID (0 if there is none), as the table has it.
func faultOf(r api.Rule, before int) api.Errno {
	inRange := 1 <= r.ID && r.ID <= 1<<30 && 0 <= r.Years && r.Years <= 200 && slices.Contains([]int{1, 2, 3}, r.Action) &&
		0 <= r.In.From && r.In.From < r.In.Until && r.In.Until <= 1<<20
	switch {
	case !inRange:
		return api.ErrRange
	case r.ID <= before:
		return api.ErrOrder
	case !isCode(r.Class):
		return api.ErrSyntax
	case !isName(r.Trigger) || slices.Contains([]byte(r.Trigger), 34):
		return api.ErrName
	case r.Action == 3 && (r.Trigger != "opened" || r.Years != 0 || r.YearEnd):
		return api.ErrArg
	}
	return api.OK
}

// check is Check by its definition.
func check(l []api.Rule) (int, api.Errno) {
	if len(l) > 64 {
		return -1, api.ErrTooLarge
	}
	before := 0
	for i, r := range l {
		if e := faultOf(r, before); e != api.OK {
			return i, e
		}
		before = r.ID
	}
	return -1, api.OK
}

func pick[T any](r *rand.Rand, l ...T) T { return l[r.Intn(len(l))] }

// randomRule returns a rule without a fault.
func randomRule(r *rand.Rand, id int) api.Rule {
	from := pick(r, 0, 1, 10, 1000, 200000, api.MaxDay-1, api.MaxDay)
	x := keep(id, pick(r, "1", "1.1", "1.10", "1.1.1", "1.1.999", "2", "2.3.4.5.6.7", "10"))
	x.In = api.Span{From: from, Until: pick(r, from+1, min(from+5, api.Forever), api.Forever)}
	if r.Intn(4) > 0 {
		x.Trigger = pick(r, "opened", "closed", "last payment", "1 years end", "'", "until", strings.Repeat("a", 64))
		x.Years = pick(r, 0, 1, 10, 199, 200)
		x.YearEnd = r.Intn(2) == 0
		x.Action = pick(r, api.ActionDestroy, api.ActionTransfer)
	}
	return x
}

// randomList returns rules without a fault.
func randomList(r *rand.Rand) []api.Rule {
	var l []api.Rule
	id := 0
	for range r.Intn(9) {
		id += 1 + r.Intn(3)
		l = append(l, randomRule(r, id))
	}
	if len(l) > 0 && r.Intn(4) == 0 {
		l[len(l)-1].ID = api.MaxID
	}
	return l
}

// spoil changes one part of a rule, mostly to something invalid.
func spoil(r *rand.Rand, x *api.Rule) {
	switch r.Intn(8) {
	case 0:
		x.ID = pick(r, 0, -1, 1, 5, api.MaxID, api.MaxID+1, math.MinInt, math.MaxInt)
	case 1:
		x.Class = pick(r, "", "01", "1.", ".1", "1.0", "1000", "999", "1.1.1.1.1.1", "1.1.1.1.1.1.1", "x", "-1", "+1", " 1", "1\n")
	case 2:
		x.Trigger = pick(r, "", " ", "a  b", " a", "a ", `"`, `a"b`, `"a`, `a"`, "a\nb", "a\x7f", "a~", "\x1f", strings.Repeat("a", 65), "opened")
	case 3:
		x.Years = pick(r, -1, 0, 200, 201, math.MinInt, math.MaxInt)
	case 4:
		x.YearEnd = !x.YearEnd
	case 5:
		x.Action = pick(r, -1, 0, 1, 2, 3, 4, math.MinInt, math.MaxInt)
	case 6:
		x.In.From = pick(r, -1, 0, x.In.Until-1, x.In.Until, x.In.Until+1, api.Forever, math.MinInt, math.MaxInt)
	case 7:
		x.In.Until = pick(r, -1, 0, x.In.From, x.In.From+1, api.Forever, api.Forever+1, math.MinInt, math.MaxInt)
	}
}

// spoiled returns rules of which some parts are changed.
func spoiled(r *rand.Rand) []api.Rule {
	l := randomList(r)
	for range r.Intn(4) {
		if len(l) > 0 {
			spoil(r, &l[r.Intn(len(l))])
		}
	}
	return l
}

// P9.1: each fault alone, at its limits.
func TestCheckFaults(t *testing.T) {
	for i, x := range []struct {
		change func(r *api.Rule)
		e      api.Errno
	}{
		{func(r *api.Rule) {}, api.OK},
		{func(r *api.Rule) { r.ID = api.MaxID }, api.OK},
		{func(r *api.Rule) { r.ID = api.MaxID + 1 }, api.ErrRange},
		{func(r *api.Rule) { r.ID = 0 }, api.ErrRange},
		{func(r *api.Rule) { r.ID = math.MinInt }, api.ErrRange},
		{func(r *api.Rule) { r.Years = -1 }, api.ErrRange},
		{func(r *api.Rule) { r.Years = 0 }, api.OK},
		{func(r *api.Rule) { r.Years = 200 }, api.OK},
		{func(r *api.Rule) { r.Years = 201 }, api.ErrRange},
		{func(r *api.Rule) { r.Action = 0 }, api.ErrRange},
		{func(r *api.Rule) { r.Action = api.ActionTransfer }, api.OK},
		{func(r *api.Rule) { r.Action = 4 }, api.ErrRange},
		{func(r *api.Rule) { r.In.From = -1 }, api.ErrRange},
		{func(r *api.Rule) { r.In.From = 0 }, api.OK},
		{func(r *api.Rule) { r.In.From = r.In.Until }, api.ErrRange},
		{func(r *api.Rule) { r.In.From = r.In.Until - 1 }, api.OK},
		{func(r *api.Rule) { r.In.Until = api.Forever }, api.OK},
		{func(r *api.Rule) { r.In.Until = api.Forever + 1 }, api.ErrRange},
		{func(r *api.Rule) { r.ID = 12 }, api.ErrOrder},
		{func(r *api.Rule) { r.ID = 11 }, api.ErrOrder},
		{func(r *api.Rule) { r.ID = 1 }, api.ErrOrder},
		{func(r *api.Rule) { r.Class = "" }, api.ErrSyntax},
		{func(r *api.Rule) { r.Class = "3.01" }, api.ErrSyntax},
		{func(r *api.Rule) { r.Class = "3.1000" }, api.ErrSyntax},
		{func(r *api.Rule) { r.Class = "1.2.3.4.5.6" }, api.OK},
		{func(r *api.Rule) { r.Class = "1.2.3.4.5.6.7" }, api.ErrSyntax},
		{func(r *api.Rule) { r.Trigger = "" }, api.ErrName},
		{func(r *api.Rule) { r.Trigger = " closed" }, api.ErrName},
		{func(r *api.Rule) { r.Trigger = "a\x80" }, api.ErrName},
		{func(r *api.Rule) { r.Trigger = `"` }, api.ErrName},
		{func(r *api.Rule) { r.Trigger = `a "b"` }, api.ErrName},
		{func(r *api.Rule) { r.Trigger = "a!#'" }, api.OK},
		{func(r *api.Rule) { r.Trigger = strings.Repeat("a", 64) }, api.OK},
		{func(r *api.Rule) { r.Trigger = strings.Repeat("a", 65) }, api.ErrName},
		{func(r *api.Rule) { *r = keep(13, "3.1") }, api.OK},
		{func(r *api.Rule) { *r = keep(13, "3.1"); r.Trigger = "closed" }, api.ErrArg},
		{func(r *api.Rule) { *r = keep(13, "3.1"); r.Years = 1 }, api.ErrArg},
		{func(r *api.Rule) { *r = keep(13, "3.1"); r.YearEnd = true }, api.ErrArg},
		{func(r *api.Rule) { *r = keep(13, "3.1"); r.Action = api.ActionDestroy }, api.OK},
	} {
		l := []api.Rule{one(12), one(13)}
		x.change(&l[1])
		want := 1
		if x.e == api.OK {
			want = -1
		}
		if at, e := rule.Check(l); at != want || e != x.e {
			t.Error(i, at, e)
		}
	}
}

// P9.1: of several faults of one rule the first one of the table counts.
func TestCheckOrderOfFaults(t *testing.T) {
	faults := []struct {
		change func(r *api.Rule)
		e      api.Errno
	}{
		{func(r *api.Rule) { r.In.Until = r.In.From }, api.ErrRange},
		{func(r *api.Rule) { r.ID = 12 }, api.ErrOrder},
		{func(r *api.Rule) { r.Class = "x" }, api.ErrSyntax},
		{func(r *api.Rule) { r.Trigger = `"` }, api.ErrName},
		{func(r *api.Rule) { r.Action, r.YearEnd = api.ActionKeep, true }, api.ErrArg},
	}
	for set := range 1 << len(faults) {
		l := some()
		at, want := -1, api.OK
		for k := len(faults) - 1; k >= 0; k-- {
			if set>>k&1 == 1 {
				faults[k].change(&l[1])
				at, want = 1, faults[k].e
			}
		}
		if i, e := rule.Check(l); i != at || e != want {
			t.Errorf("%b %v %v %v", set, i, e, want)
		}
	}
}

// P9.1: the first rule with a fault counts, whatever the fault, and a list has 64 rules at most.
func TestCheckFirst(t *testing.T) {
	l := some()
	l[1].Action, l[2].ID = api.ActionKeep, 0
	if at, e := rule.Check(l); at != 1 || e != api.ErrArg {
		t.Error(at, e)
	}
	for _, empty := range [][]api.Rule{nil, {}} {
		if at, e := rule.Check(empty); at != -1 || e != api.OK {
			t.Error(at, e)
		}
	}
	var many []api.Rule
	for id := range 65 {
		many = append(many, one(id+1))
	}
	if at, e := rule.Check(many[:64]); at != -1 || e != api.OK {
		t.Error(at, e)
	}
	if at, e := rule.Check(many); at != -1 || e != api.ErrTooLarge {
		t.Error(at, e)
	}
	many[0] = api.Rule{}
	if at, e := rule.Check(many); at != -1 || e != api.ErrTooLarge {
		t.Error(at, e)
	}
	if at, e := rule.Check(many[:64]); at != 0 || e != api.ErrRange {
		t.Error(at, e)
	}
}

// P9.1: many lists, with and without faults.
func TestCheckLists(t *testing.T) {
	r := rand.New(rand.NewSource(1))
	for range 20000 {
		l := spoiled(r)
		wantAt, want := check(l)
		if at, e := rule.Check(l); at != wantAt || e != want {
			t.Fatal(l, at, e, wantAt, want)
		}
	}
}

// P9.1: Find returns the first rule with an ID, for any list.
func TestFind(t *testing.T) {
	l := []api.Rule{{ID: 5}, {ID: 0}, {ID: 5}, {ID: -3}}
	for id, want := range map[int]int{5: 0, 0: 1, -3: 3, 1: -1, math.MaxInt: -1} {
		if got := rule.Find(l, id); got != want {
			t.Error(id, got)
		}
	}
	if got := rule.Find(nil, 1); got != -1 {
		t.Error(got)
	}
	for i, r := range some() {
		if got := rule.Find(some(), r.ID); got != i {
			t.Error(i, got)
		}
	}
}

// applying is Apply by its definition.
func applying(l []api.Rule, c string, day int) []int {
	most := 0
	of := map[int][]int{}
	for _, r := range l {
		if r.In.From <= day && day < r.In.Until && isWithin(c, r.Class) {
			n := len(strings.Split(r.Class, "."))
			of[n] = append(of[n], r.ID)
			most = max(most, n)
		}
	}
	return of[most]
}

// P9.3: the rules that apply to a class, for any list, any string and any day.
func TestApply(t *testing.T) {
	r := rand.New(rand.NewSource(2))
	codes := []string{"1", "1.1", "1.1.1", "1.10", "1.10.1", "1.1.1.2.3.4", "1.2", "2", "2.3.4.5.6.7", "2.3.4.5.6", "10", "11", "", "x", "1.", "01", "1.1.1.1.1.1.1", "1000"}
	for range 3000 {
		l := spoiled(r)
		days := []int{-1, 0, 5, api.MaxDay, api.Forever, math.MinInt, math.MaxInt}
		for _, x := range l {
			days = append(days, x.In.From-1, x.In.From, x.In.Until-1, x.In.Until)
		}
		for _, c := range codes {
			d := pick(r, days...)
			if got, want := rule.Apply(l, c, d), applying(l, c, d); !slices.Equal(got, want) {
				t.Fatal(l, c, d, got, want)
			}
		}
	}
}

// P9.3: the example of the chapter.
func TestApplyExample(t *testing.T) {
	l := []api.Rule{one(12)}
	from, until := l[0].In.From, l[0].In.Until
	for i, x := range []struct {
		code string
		day  int
		want []int
	}{
		{"3.1.4", from, []int{12}},
		{"3.1.4", until - 1, []int{12}},
		{"3.1.4", from - 1, nil},
		{"3.1.4", until, nil},
		{"3.1", from, []int{12}},
		{"3", from, nil},
		{"3.10", from, nil},
	} {
		if got := rule.Apply(l, x.code, x.day); !slices.Equal(got, x.want) {
			t.Error(i, got)
		}
	}
	nearer := api.Rule{ID: 14, Class: "3.1.4", Trigger: "closed", Action: api.ActionDestroy, In: api.Span{From: from + 10, Until: until}}
	l = []api.Rule{one(12), one(13), nearer, one(15)}
	if got := rule.Apply(l, "3.1.4", from+9); !slices.Equal(got, []int{12, 13, 15}) {
		t.Error(got)
	}
	if got := rule.Apply(l, "3.1.4", from+10); !slices.Equal(got, []int{14}) {
		t.Error(got)
	}
	if got := rule.Apply(l, "3.1.5", from+10); !slices.Equal(got, []int{12, 13, 15}) {
		t.Error(got)
	}
}

// due is the due day of a rule by its definition, with the calendar of the standard library.
func due(r api.Rule, last int) int {
	year, month, d := start.AddDate(0, 0, last).Date()
	year += r.Years
	if r.YearEnd {
		month, d = 12, 31
	}
	date := time.Date(year, month, d, 0, 0, 0, 0, time.UTC)
	if date.Day() != d {
		date = date.AddDate(0, 0, -1)
	}
	return min(int(date.Unix()-start.Unix())/86400, api.MaxDay)
}

// dueDays are days beside which dates count in different ways.
func dueDays(r *rand.Rand) []int {
	l := []int{0, 1, 58, 59, 60, 365, 366, api.MaxDay - 1, api.MaxDay}
	for _, date := range []string{"1991-05-06", "1992-02-28", "1992-02-29", "1992-03-01", "1992-12-31", "1993-01-01", "1900-02-28", "2000-02-29", "4270-11-25", "4270-11-26", "4270-12-31", "4469-12-31", "4470-01-01"} {
		l = append(l, dayOf(date))
	}
	for range 100 {
		l = append(l, r.Intn(api.MaxDay+1))
	}
	return l
}

// P9.3: the due day counts from the Last of the dating on.
func TestDue(t *testing.T) {
	r := rand.New(rand.NewSource(3))
	for _, last := range dueDays(r) {
		for _, years := range []int{0, 1, 2, 4, 8, 10, 99, 100, 199, 200} {
			x := one(12)
			x.Years, x.YearEnd, x.Action = years, r.Intn(2) == 0, pick(r, api.ActionDestroy, api.ActionTransfer)
			got, e := rule.Due(x, api.Dating{First: pick(r, 0, last, r.Intn(last+1)), Last: last})
			if want := due(x, last); got != want || e != api.OK {
				t.Error(x, last, got, want, e)
			}
		}
		if got, e := rule.Due(keep(1, "1"), api.Dating{First: last, Last: last}); got != last || e != api.OK {
			t.Error(last, got, e)
		}
	}
}

// P9.3: the examples of the chapter and of the document.
func TestDueExample(t *testing.T) {
	closed := dayOf("1991-05-06")
	x := one(12)
	if got, e := rule.Due(x, api.Dating{First: closed, Last: closed}); got != dayOf("2001-12-31") || e != api.OK {
		t.Error(got, e)
	}
	x.YearEnd = false
	if got, e := rule.Due(x, api.Dating{First: closed - 400, Last: closed}); got != dayOf("2001-05-06") || e != api.OK {
		t.Error(got, e)
	}
}

// P9.3: Due refuses rules that have a fault on their own, and datings that are not valid.
func TestDueErrors(t *testing.T) {
	r := rand.New(rand.NewSource(4))
	for range 5000 {
		x := randomRule(r, 1)
		spoil(r, &x)
		want := api.OK
		if _, e := check([]api.Rule{x}); e != api.OK {
			want = api.ErrArg
		}
		got, e := rule.Due(x, api.Dating{First: 7, Last: 70})
		if e != want || e != api.OK && got != 0 || e == api.OK && got != due(x, 70) {
			t.Fatal(x, got, e, want)
		}
	}
	for _, d := range []api.Dating{{First: -1, Last: 5}, {First: 6, Last: 5}, {First: 5, Last: api.MaxDay + 1}, {First: math.MinInt, Last: math.MaxInt}, {First: math.MaxInt, Last: math.MinInt}} {
		for _, x := range []api.Rule{one(1), keep(1, "1"), {}} {
			if got, e := rule.Due(x, d); got != 0 || e != api.ErrArg {
				t.Error(d, got, e)
			}
		}
	}
}

// P9.4: End cuts the span of one rule and changes nothing else.
func TestEnd(t *testing.T) {
	for i, x := range some() {
		for _, d := range []int{x.In.From + 1, x.In.From + 2, x.In.Until - 1, x.In.Until} {
			want := some()
			want[i].In.Until = d
			if got, e := rule.End(some(), x.ID, d); e != api.OK || !slices.Equal(got, want) {
				t.Error(x.ID, d, got, e)
			}
		}
		for _, d := range []int{x.In.From, x.In.From - 1, x.In.Until + 1, math.MinInt, math.MaxInt} {
			if got, e := rule.End(some(), x.ID, d); e != api.ErrRange || len(got) != 0 {
				t.Error(x.ID, d, got, e)
			}
		}
	}
}

// P9.4: the errors of End, in their order.
func TestEndErrors(t *testing.T) {
	faulty := some()
	faulty[3].YearEnd = true
	for i, x := range []struct {
		l       []api.Rule
		id, day int
		e       api.Errno
	}{
		{faulty, 12, one(12).In.Until, api.ErrArg},
		{faulty, 99, -1, api.ErrArg},
		{make([]api.Rule, 65), 0, 0, api.ErrArg},
		{some(), 99, -1, api.ErrNotFound},
		{some(), 0, 10, api.ErrNotFound},
		{nil, 1, 10, api.ErrNotFound},
		{some(), 12, -1, api.ErrRange},
		{some(), 21, 5, api.ErrRange},
		{some(), 21, 6, api.OK},
	} {
		if got, e := rule.End(x.l, x.id, x.day); e != x.e || e != api.OK && len(got) != 0 {
			t.Error(i, got, e)
		}
	}
}

// P9.5: all rules that apply have the same class, and the nearer ones hide the others.
func TestSameClass(t *testing.T) {
	r := rand.New(rand.NewSource(5))
	for range 2000 {
		l := randomList(r)
		classes := map[string]bool{}
		for _, id := range rule.Apply(l, pick(r, "1.1.1", "1.10", "2.3.4.5.6.7"), pick(r, 1, 10, 200000)) {
			classes[l[rule.Find(l, id)].Class] = true
		}
		if len(classes) > 1 {
			t.Fatal(l, classes)
		}
	}
}

// P9.5: a dating that ends later, or more years, never make a due day earlier.
func TestDueGrows(t *testing.T) {
	r := rand.New(rand.NewSource(6))
	days := dueDays(r)
	for range 20000 {
		x := one(12)
		x.Years, x.YearEnd = r.Intn(201), r.Intn(2) == 0
		y := x
		y.Years += r.Intn(201 - x.Years)
		last := pick(r, days...)
		later := min(last+r.Intn(800), api.MaxDay)
		a, _ := rule.Due(x, api.Dating{First: 0, Last: last})
		b, _ := rule.Due(y, api.Dating{First: last, Last: later})
		if b < a || a < last {
			t.Fatal(x, y, last, later, a, b)
		}
	}
}

// P9.5: ending a rule changes what applies only from its end on.
func TestEndKeepsThePast(t *testing.T) {
	r := rand.New(rand.NewSource(7))
	for range 2000 {
		l := randomList(r)
		if len(l) == 0 {
			continue
		}
		x := pick(r, l...)
		end := x.In.From + 1 + r.Intn(x.In.Until-x.In.From)
		ended, e := rule.End(l, x.ID, end)
		if _, f := rule.Check(ended); e != api.OK || f != api.OK {
			t.Fatal(l, x.ID, end, e, f)
		}
		for _, d := range []int{x.In.From - 1, x.In.From, end - 1, r.Intn(end)} {
			if !slices.Equal(rule.Apply(l, x.Class, d), rule.Apply(ended, x.Class, d)) {
				t.Fatal(l, x.ID, end, d)
			}
		}
		if slices.Contains(rule.Apply(ended, x.Class, end), x.ID) {
			t.Fatal(l, x.ID, end)
		}
	}
}

// P9.2, P9.3, P9.4: arguments are not modified, and results share no memory with them.
func TestMemory(t *testing.T) {
	l := some()
	ended, _ := rule.End(l, 12, l[0].In.Until)
	ended[1].Class = "9"
	rule.Print(l)
	rule.Apply(l, "3.1.4", l[0].In.From)
	if _, e := rule.Due(l[0], api.Dating{}); e != api.OK || !slices.Equal(l, some()) {
		t.Error(l, e)
	}
	ids := rule.Apply(l, "3.1", l[0].In.From)
	ids[0] = 99
	if got := rule.Apply(l, "3.1", l[0].In.From); !slices.Equal(got, []int{12, 13}) {
		t.Error(got)
	}
}
