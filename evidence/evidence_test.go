package evidence_test

import (
	"math"
	"math/rand"
	"reflect"
	"slices"
	"testing"

	"archivum/api"
	"archivum/evidence"
	"archivum/file"
	"archivum/hold"
	"archivum/rule"
	"archivum/verdict"
)

var always = api.Span{From: 0, Until: api.Forever}

// example returns the registry of the chapter's example.
func example() api.Registry {
	return api.Registry{
		Offices: []api.Office{{ID: 1, Name: "Mills", In: always}},
		Plans:   []api.Plan{{Version: 1, In: always, Classes: []api.Class{{Code: "1", Title: "Mills"}, {Code: "1.1", Title: "Letters"}}}},
		Files:   []api.File{{ID: 7, Office: 1, Opened: 5, Closed: 10, Class: "1.1", Title: "Letters"}},
		Rules:   []api.Rule{{ID: 3, Class: "1", Trigger: "closed", Action: api.ActionDestroy, In: always}},
		Holds:   []api.Hold{{ID: 2, Kind: api.HoldFile, Of: 7, Reason: "Inquiry", In: api.Span{From: 12, Until: 20}}},
	}
}

func pick[T any](r *rand.Rand, l ...T) T { return l[r.Intn(len(l))] }

// some returns a registry without a fault, in which the class 1.1 becomes 2 on day 50, and classes end on day 110.
func some(r *rand.Rand) api.Registry {
	classes := []api.Class{{Code: "1", Title: "Mills"}, {Code: "1.1", Title: "Letters"}, {Code: "2", Title: "Weirs"}}
	x := api.Registry{
		Offices: []api.Office{{ID: 1, Name: "Mills", In: api.Span{From: 0, Until: 40}, Next: []int{2}}, {ID: 2, Name: "Works", In: api.Span{From: 40, Until: api.Forever}}},
		Plans: []api.Plan{
			{Version: 1, In: api.Span{From: 0, Until: 50}, Classes: classes},
			{Version: 2, In: api.Span{From: 50, Until: 110}, Classes: slices.Clone(classes), Moved: []api.Moved{{From: "1.1", To: "2"}}},
		},
	}
	for id := range 3 {
		f := api.File{ID: id + 1, Office: 1, Opened: r.Intn(20), Class: pick(r, "1", "1.1", "2"), Title: "Letters"}
		f.Closed = pick(r, f.Opened+r.Intn(60), f.Opened+r.Intn(60), api.Forever)
		for _, recorded := range []int{25, 55, 55, 70}[:r.Intn(5)] {
			first := r.Intn(80)
			f.Notes = append(f.Notes, api.Note{Name: pick(r, "paid", "lost"), Day: api.Dating{First: first, Last: first + r.Intn(30)}, Recorded: recorded})
		}
		x.Files = append(x.Files, f)
	}
	for id := range r.Intn(6) {
		from := r.Intn(30)
		one := api.Rule{ID: id + 1, Class: pick(r, "1", "1.1", "2"), Trigger: pick(r, "opened", "closed", "closed", "paid", "lost"), Action: pick(r, api.ActionDestroy, api.ActionTransfer), In: api.Span{From: from, Until: pick(r, from+60, api.Forever)}}
		if r.Intn(10) == 0 {
			one.Trigger, one.Action = "opened", api.ActionKeep
		}
		x.Rules = append(x.Rules, one)
	}
	for id := range r.Intn(4) {
		h := api.Hold{ID: id + 1, Kind: 1 + r.Intn(2), Of: 1 + r.Intn(3), Reason: "Inquiry", In: api.Span{From: r.Intn(80), Until: 90 + r.Intn(20)}}
		x.Holds = append(x.Holds, h)
	}
	return withEntries(r, x)
}

// withEntries returns a registry with some selections, certificates and departures.
func withEntries(r *rand.Rand, x api.Registry) api.Registry {
	for i := range r.Intn(3) {
		x.Selections = append(x.Selections, api.Selection{Sample: 1 + r.Intn(9), Day: 40*i + r.Intn(40), Files: pick(r, []int{1, 2}, []int{3}, []int{1, 2, 3})})
	}
	if r.Intn(2) == 0 {
		x.Certificates = []api.Certificate{{Number: 1, Day: 60 + r.Intn(60), Files: []int{2}}}
	}
	if r.Intn(2) == 0 {
		x.Departures = []api.Departure{{File: 3, Day: 60 + r.Intn(60)}}
	}
	return x
}

// explanation is the explanation by its definition, of a verdict.
func explanation(r api.Registry, f api.File, day int) []api.Step {
	v, _ := verdict.On(r, f.ID, day)
	open := api.Step{Kind: api.StepOpen, First: f.Opened, Last: f.Closed}
	end := api.Step{Kind: api.StepEnd, Number: v.Kind, First: v.Rule, Last: v.Due}
	if day < f.Opened {
		return []api.Step{open, end}
	}
	for _, c := range r.Certificates {
		if c.Day <= day && slices.Contains(c.Files, f.ID) {
			return []api.Step{{Kind: api.StepDone, Number: 1, First: c.Day}, end}
		}
	}
	for _, d := range r.Departures {
		if d.Day <= day && d.File == f.ID {
			return []api.Step{{Kind: api.StepDone, Number: 2, First: d.Day}, end}
		}
	}
	class := api.Step{Kind: api.StepClass}
	for _, p := range r.Plans {
		if p.In.From <= day && day < p.In.Until {
			class.Number = p.Version
			class.Text, _ = file.Class(r.Plans, f, day)
		}
	}
	l := []api.Step{open, class}
	ids := rule.Apply(r.Rules, class.Text, day)
	keep := false
	for _, id := range ids {
		l = append(l, api.Step{Kind: api.StepRule, Number: id})
		keep = keep || r.Rules[id-1].Action == api.ActionKeep
	}
	if len(ids) == 0 || day < f.Closed || keep {
		return append(l, end)
	}
	return append(l, append(reasons(r, f, ids, day), end)...)
}

// reasons are the steps from the triggers on, up to the end.
func reasons(r api.Registry, f api.File, ids []int, day int) []api.Step {
	var l []api.Step
	last := 0
	for _, id := range ids {
		start, ok := file.Trigger(f, r.Rules[id-1].Trigger, day)
		if !ok {
			return l
		}
		due, _ := rule.Due(r.Rules[id-1], start)
		last = max(last, due)
		l = append(l, api.Step{Kind: api.StepTrigger, Number: id, First: start.First, Last: start.Last}, api.Step{Kind: api.StepDue, Number: id, Last: due})
	}
	if day <= last {
		return l
	}
	holds := hold.Holding(r.Offices, r.Plans, r.Holds, f, day)
	for _, id := range holds {
		l = append(l, api.Step{Kind: api.StepHold, Number: id})
	}
	if len(holds) > 0 {
		return l
	}
	for _, s := range r.Selections {
		if s.Day <= day && slices.Contains(s.Files, f.ID) {
			return append(l, api.Step{Kind: api.StepSelected, Number: s.Sample, First: s.Day})
		}
	}
	return l
}

// P12.1: the example of the chapter.
func TestExample(t *testing.T) {
	want := []api.Step{
		{Kind: api.StepOpen, First: 5, Last: 10},
		{Kind: api.StepClass, Number: 1, Text: "1.1"},
		{Kind: api.StepRule, Number: 3},
		{Kind: api.StepTrigger, Number: 3, First: 10, Last: 10},
		{Kind: api.StepDue, Number: 3, Last: 10},
		{Kind: api.StepHold, Number: 2},
		{Kind: api.StepEnd, Number: api.VerdictHold, First: 3, Last: 10},
	}
	if l, e := evidence.Explain(example(), 7, 15); e != api.OK || !slices.Equal(l, want) {
		t.Error(l, e)
	}
	v, e := evidence.Check(example(), 7, 15, want)
	if e != api.OK || !reflect.DeepEqual(v, api.Verdict{Kind: api.VerdictHold, File: 7, Day: 15, Rule: 3, Due: 10, Holds: []int{2}}) {
		t.Error(v, e)
	}
	text, e := evidence.Format(want)
	if e != api.OK || text != "opened 1600-01-06, closed 1600-01-11\nclass 1.1 in version 1\nrule 3 applies\nrule 3 starts from 1600-01-11 to 1600-01-11\nrule 3 is due after 1600-01-11\nhold 2\nverdict hold by rule 3, due after 1600-01-11\n" {
		t.Error(text, e)
	}
}

// P12.1: a file that is selected and has a rule to be transferred, one whose class has ended, and one whose second rule has no trigger.
func TestExplainMore(t *testing.T) {
	r := example()
	r.Rules = append(r.Rules, api.Rule{ID: 4, Class: "1", Trigger: "opened", Action: api.ActionTransfer, In: always}, api.Rule{ID: 5, Class: "1", Trigger: "paid", Action: api.ActionDestroy, In: api.Span{From: 100, Until: 200}})
	r.Selections = []api.Selection{{Sample: 8, Day: 30, Files: []int{7}}, {Sample: 9, Day: 31, Files: []int{7}}}
	r.Plans[0].In.Until = 300
	head := []api.Step{
		{Kind: api.StepOpen, First: 5, Last: 10},
		{Kind: api.StepClass, Number: 1, Text: "1.1"},
		{Kind: api.StepRule, Number: 3},
		{Kind: api.StepRule, Number: 4},
	}
	periods := []api.Step{
		{Kind: api.StepTrigger, Number: 3, First: 10, Last: 10},
		{Kind: api.StepDue, Number: 3, Last: 10},
		{Kind: api.StepTrigger, Number: 4, First: 5, Last: 5},
		{Kind: api.StepDue, Number: 4, Last: 5},
	}
	transfer := api.Step{Kind: api.StepEnd, Number: api.VerdictTransfer, First: 3, Last: 10}
	for i, x := range []struct {
		day  int
		want []api.Step
	}{
		{29, append(slices.Concat(head, periods), transfer)},
		{30, append(slices.Concat(head, periods), api.Step{Kind: api.StepSelected, Number: 8, First: 30}, transfer)},
		{99, append(slices.Concat(head, periods), api.Step{Kind: api.StepSelected, Number: 8, First: 30}, transfer)},
		{100, append(slices.Concat(head, []api.Step{{Kind: api.StepRule, Number: 5}}, periods), api.Step{Kind: api.StepEnd, Number: api.VerdictWait, First: 5})},
		{300, []api.Step{head[0], {Kind: api.StepClass}, {Kind: api.StepEnd}}},
	} {
		if l, e := evidence.Explain(r, 7, x.day); e != api.OK || !slices.Equal(l, x.want) {
			t.Error(i, l, e)
		}
	}
}

// P12.1, P12.4: Explain for many registries, and Check returns the verdict for the explanation.
func TestExplain(t *testing.T) {
	rnd := rand.New(rand.NewSource(1))
	kinds, steps := map[int]int{}, map[int]int{}
	for range 1000 {
		r := some(rnd)
		for _, d := range []int{rnd.Intn(30), rnd.Intn(60), 60 + rnd.Intn(60), 60 + rnd.Intn(60), api.MaxDay} {
			f := pick(rnd, r.Files...)
			want := explanation(r, f, d)
			v, _ := verdict.On(r, f.ID, d)
			kinds[v.Kind]++
			for _, s := range want {
				steps[s.Kind]++
			}
			if l, e := evidence.Explain(r, f.ID, d); e != api.OK || !slices.Equal(l, want) {
				t.Fatalf("%+v %v %v %v %v %v", r, f.ID, d, l, e, want)
			}
			if got, e := evidence.Check(r, f.ID, d, want); e != api.OK || !reflect.DeepEqual(got, v) {
				t.Fatalf("%+v %v %v %v %v", r, f.ID, d, got, e)
			}
			if at, e := evidence.Wrong(r, f.ID, d, want); e != api.OK || at != -1 {
				t.Fatalf("%+v %v %v %v %v", r, f.ID, d, at, e)
			}
		}
	}
	for k := range 10 {
		if kinds[k] < 15 || k > 0 && steps[k] < 15 {
			t.Error(k, kinds[k], steps[k])
		}
	}
}

// spoiled returns a list that can differ from another one.
func spoiled(rnd *rand.Rand, l []api.Step) []api.Step {
	l = slices.Clone(l)
	i := rnd.Intn(len(l))
	switch rnd.Intn(9) {
	case 0:
		l[i].Kind = 1 + rnd.Intn(9)
	case 1:
		l[i].Number += rnd.Intn(3) - 1
	case 2:
		l[i].First += rnd.Intn(3) - 1
	case 3:
		l[i].Last += rnd.Intn(3) - 1
	case 4:
		l[i].Text = pick(rnd, "", "1", "2", "1.1")
	case 5:
		return slices.Delete(l, i, i+1)
	case 6:
		return slices.Insert(l, i, pick(rnd, l...))
	case 7:
		return l[:i]
	case 8:
		k := rnd.Intn(len(l))
		l[i], l[k] = l[k], l[i]
	}
	return l
}

// P12.1, P12.2, P12.4: every other list is refused, from its first step on that differs.
func TestWrong(t *testing.T) {
	rnd := rand.New(rand.NewSource(2))
	refused := 0
	for range 300 {
		r := some(rnd)
		f, d := pick(rnd, r.Files...), rnd.Intn(120)
		right := explanation(r, f, d)
		for range 20 {
			l := spoiled(rnd, right)
			for rnd.Intn(3) == 0 && len(l) > 0 {
				l = spoiled(rnd, l)
			}
			want := 0
			for want < len(l) && want < len(right) && l[want] == right[want] {
				want++
			}
			wantError := api.ErrProof
			if slices.Equal(l, right) {
				want, wantError = -1, api.OK
			} else {
				refused++
			}
			if at, e := evidence.Wrong(r, f.ID, d, l); e != api.OK || at != want {
				t.Fatalf("%+v %v %v %v %v", r, f.ID, d, at, e)
			}
			if v, e := evidence.Check(r, f.ID, d, l); e != wantError || e != api.OK && !reflect.DeepEqual(v, api.Verdict{}) {
				t.Fatalf("%+v %v %v %v %v", r, f.ID, d, v, e)
			}
		}
	}
	if refused < 3000 {
		t.Error(refused)
	}
}

// P12.1, P12.2: lists that are empty, too short and too long.
func TestWrongLengths(t *testing.T) {
	r := example()
	right, _ := evidence.Explain(r, 7, 15)
	for n := range right {
		if at, e := evidence.Wrong(r, 7, 15, right[:n]); at != n || e != api.OK {
			t.Error(n, at, e)
		}
		if _, e := evidence.Check(r, 7, 15, right[:n]); e != api.ErrProof {
			t.Error(n, e)
		}
	}
	for _, n := range []int{1, 2, 2000} {
		long := append(slices.Clone(right), make([]api.Step, n)...)
		if at, e := evidence.Wrong(r, 7, 15, long); at != len(right) || e != api.OK {
			t.Error(n, at, e)
		}
		if _, e := evidence.Check(r, 7, 15, long); e != api.ErrProof {
			t.Error(n, e)
		}
	}
	if at, e := evidence.Wrong(r, 7, 15, nil); at != 0 || e != api.OK {
		t.Error(at, e)
	}
}

// P12.4: an explanation proves the verdict of its file and day alone.
func TestOneListEach(t *testing.T) {
	rnd := rand.New(rand.NewSource(3))
	for range 100 {
		r := some(rnd)
		f := pick(rnd, r.Files...)
		d, other := rnd.Intn(120), rnd.Intn(120)
		l, _ := evidence.Explain(r, f.ID, d)
		v, _ := verdict.On(r, f.ID, d)
		w, e := evidence.Check(r, f.ID, other, l)
		if e == api.OK && (w.Kind != v.Kind || w.Rule != v.Rule || w.Due != v.Due || !slices.Equal(w.Holds, v.Holds)) {
			t.Fatalf("%+v %v %v %v %v", r, d, other, v, w)
		}
	}
}

// P12.1, P12.2: the errors of the verdict count ahead of the list.
func TestErrors(t *testing.T) {
	faulty := example()
	faulty.Holds[0].Reason = ""
	right, _ := evidence.Explain(example(), 7, 15)
	for i, x := range []struct {
		r         api.Registry
		file, day int
		e         api.Errno
	}{
		{faulty, 8, -1, api.ErrArg},
		{faulty, 7, 15, api.ErrArg},
		{example(), 8, -1, api.ErrNotFound},
		{example(), 8, 15, api.ErrNotFound},
		{api.Registry{}, 7, 15, api.ErrNotFound},
		{example(), 7, -1, api.ErrRange},
		{example(), 7, api.MaxDay + 1, api.ErrRange},
		{example(), 7, math.MinInt, api.ErrRange},
	} {
		if l, e := evidence.Explain(x.r, x.file, x.day); e != x.e || len(l) != 0 {
			t.Error(i, l, e)
		}
		for _, l := range [][]api.Step{right, nil} {
			if v, e := evidence.Check(x.r, x.file, x.day, l); e != x.e || !reflect.DeepEqual(v, api.Verdict{}) {
				t.Error(i, v, e)
			}
			if at, e := evidence.Wrong(x.r, x.file, x.day, l); e != x.e || at != 0 {
				t.Error(i, at, e)
			}
		}
	}
}

// P12.1, P12.2: arguments are not modified, and results share no memory with others.
func TestMemory(t *testing.T) {
	for seed := range int64(20) {
		r, same := some(rand.New(rand.NewSource(seed))), some(rand.New(rand.NewSource(seed)))
		for d := range 12 {
			l, _ := evidence.Explain(r, 2, 10*d)
			again := slices.Clone(l)
			evidence.Check(r, 2, 10*d, l)
			evidence.Wrong(r, 2, 10*d, l)
			evidence.Format(l)
			if !slices.Equal(l, again) {
				t.Fatal(l, again)
			}
		}
		if !reflect.DeepEqual(r, same) {
			t.Fatal(r, same)
		}
	}
	right, _ := evidence.Explain(example(), 7, 15)
	a, _ := evidence.Check(example(), 7, 15, right)
	b, _ := evidence.Check(example(), 7, 15, right)
	a.Holds[0] = 99
	if b.Holds[0] != 2 {
		t.Error(b)
	}
}
