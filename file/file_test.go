package file_test

import (
	"math"
	"math/rand"
	"reflect"
	"slices"
	"strings"
	"testing"

	"archivum/api"
	"archivum/file"
	"archivum/plan"
)

// someOffices returns two offices, one behind the other.
func someOffices() []api.Office {
	return []api.Office{{ID: 3, Name: "Mills", In: api.Span{From: 2, Until: 40}, Next: []int{5}}, {ID: 5, Name: "Works", In: api.Span{From: 40, Until: api.Forever}}}
}

// somePlans returns three versions, in force from day 10 to 69.
func somePlans() []api.Plan {
	l := []api.Plan{{Version: 1, In: api.Span{From: 10, Until: 20}}, {Version: 2, In: api.Span{From: 20, Until: 50}}, {Version: 3, In: api.Span{From: 50, Until: 70}}}
	for i, codes := range [][]string{{"1", "1.1", "2"}, {"1", "1.2", "3"}, {"1", "4", "4.1"}} {
		for _, c := range codes {
			l[i].Classes = append(l[i].Classes, api.Class{Code: c, Title: "Class " + c})
		}
	}
	l[1].Moved = []api.Moved{{From: "1.1", To: "1.2"}, {From: "2", To: "3"}}
	l[2].Moved = []api.Moved{{From: "3", To: "4.1"}}
	return l
}

func note(name string, first, last, recorded int) api.Note {
	return api.Note{Name: name, Day: api.Dating{First: first, Last: last}, Recorded: recorded}
}

// one returns a file with notes, opened on day 12 and closed on day 30.
func one(id int) api.File {
	return api.File{ID: id, Office: 3, Opened: 12, Closed: 30, Class: "1.1", Title: "Letters", Points: 40, Notes: []api.Note{note("paid", 13, 18, 18), note("death", 5, 5, 20), note("paid", 14, 18, 20), note("paid", 2, 17, 33)}}
}

// opened returns a file like one that is still open.
func opened(id int) api.File {
	f := one(id)
	f.Closed = api.Forever
	return f
}

// some returns three files without a fault.
func some() []api.File { return []api.File{one(1), one(7), opened(8)} }

// clone returns a copy of a list that shares no memory with it.
func clone(l []api.File) []api.File {
	m := slices.Clone(l)
	for i := range m {
		m[i].Notes = slices.Clone(m[i].Notes)
	}
	return m
}

// same reports whether two lists have the same files.
func same(l, m []api.File) bool {
	return slices.EqualFunc(l, m, func(a, b api.File) bool {
		notes := slices.Equal(a.Notes, b.Notes)
		a.Notes, b.Notes = nil, nil
		return notes && reflect.DeepEqual(a, b)
	})
}

// check checks a list with the offices and versions of the tests.
func check(l []api.File) (int, api.Errno) { return file.Check(someOffices(), somePlans(), l) }

// P8.1: each fault alone, at its limits.
func TestCheckFaults(t *testing.T) {
	long := strings.Repeat("a", api.MaxName)
	for i, x := range []struct {
		change func(f *api.File)
		e      api.Errno
	}{
		{func(f *api.File) {}, api.OK},
		{func(f *api.File) { f.ID = 2 }, api.OK},
		{func(f *api.File) { f.ID = 0 }, api.ErrRange},
		{func(f *api.File) { f.ID = -7 }, api.ErrRange},
		{func(f *api.File) { f.ID = math.MinInt }, api.ErrRange},
		{func(f *api.File) { f.ID = api.MaxID + 1 }, api.ErrRange},
		{func(f *api.File) { f.Opened = -1 }, api.ErrRange},
		{func(f *api.File) { f.Opened = 0 }, api.ErrNotFound},
		{func(f *api.File) { f.Opened = math.MinInt }, api.ErrRange},
		{func(f *api.File) { f.Opened, f.Closed, f.Notes = api.MaxDay+1, api.MaxDay+1, nil }, api.ErrRange},
		{func(f *api.File) { f.Opened = 31 }, api.ErrRange},
		{func(f *api.File) { f.Closed = 11 }, api.ErrRange},
		{func(f *api.File) { f.Closed = 12 }, api.OK},
		{func(f *api.File) { f.Closed = 0 }, api.ErrRange},
		{func(f *api.File) { f.Closed = api.MaxDay }, api.OK},
		{func(f *api.File) { f.Closed = api.Forever }, api.OK},
		{func(f *api.File) { f.Closed = api.Forever + 1 }, api.ErrRange},
		{func(f *api.File) { f.Closed = math.MaxInt }, api.ErrRange},
		{func(f *api.File) { f.Points = 0 }, api.OK},
		{func(f *api.File) { f.Points = -1 }, api.ErrRange},
		{func(f *api.File) { f.Points = 100 }, api.OK},
		{func(f *api.File) { f.Points = 101 }, api.ErrRange},
		{func(f *api.File) { f.ID = 1 }, api.ErrOrder},
		{func(f *api.File) { f.Title = "" }, api.ErrName},
		{func(f *api.File) { f.Title = "a  b" }, api.ErrName},
		{func(f *api.File) { f.Title = long }, api.OK},
		{func(f *api.File) { f.Title = long + "a" }, api.ErrName},
		{func(f *api.File) { f.Title = "opened" }, api.OK},
		{func(f *api.File) { f.Office = 4 }, api.ErrNotFound},
		{func(f *api.File) { f.Office = 0 }, api.ErrNotFound},
		{func(f *api.File) { f.Office = 5 }, api.ErrNotFound},
		{func(f *api.File) { *f = api.File{ID: 7, Office: 3, Opened: 39, Closed: 60, Class: "3", Title: "x"} }, api.OK},
		{func(f *api.File) { *f = api.File{ID: 7, Office: 3, Opened: 40, Closed: 60, Class: "3", Title: "x"} }, api.ErrNotFound},
		{func(f *api.File) { *f = api.File{ID: 7, Office: 5, Opened: 40, Closed: 60, Class: "3", Title: "x"} }, api.OK},
		{func(f *api.File) { *f = api.File{ID: 7, Office: 3, Opened: 2, Closed: 60, Class: "1", Title: "x"} }, api.ErrNoPlan},
		{func(f *api.File) { *f = api.File{ID: 7, Office: 3, Opened: 9, Closed: 60, Class: "1", Title: "x"} }, api.ErrNoPlan},
		{func(f *api.File) { *f = api.File{ID: 7, Office: 3, Opened: 10, Closed: 60, Class: "1", Title: "x"} }, api.OK},
		{func(f *api.File) { *f = api.File{ID: 7, Office: 5, Opened: 69, Closed: 80, Class: "4", Title: "x"} }, api.OK},
		{func(f *api.File) { *f = api.File{ID: 7, Office: 5, Opened: 70, Closed: 80, Class: "4", Title: "x"} }, api.ErrNoPlan},
		{func(f *api.File) { f.Class = "1.2" }, api.ErrNoPlan},
		{func(f *api.File) { f.Class = "" }, api.ErrNoPlan},
		{func(f *api.File) { f.Class = "x" }, api.ErrNoPlan},
		{func(f *api.File) { f.Class = "2" }, api.OK},
		{func(f *api.File) { f.Opened, f.Notes = 20, nil }, api.ErrNoPlan},
		{func(f *api.File) { f.Notes = slices.Repeat(f.Notes[:1], api.MaxNotes) }, api.OK},
		{func(f *api.File) { f.Notes = slices.Repeat(f.Notes[:1], api.MaxNotes+1) }, api.ErrTooLarge},
		{func(f *api.File) { f.Notes = nil }, api.OK},
		{func(f *api.File) { f.Notes[0].Name = "opened" }, api.ErrName},
		{func(f *api.File) { f.Notes[3].Name = "closed" }, api.ErrName},
		{func(f *api.File) { f.Notes[3].Name = "" }, api.ErrName},
		{func(f *api.File) { f.Notes[3].Name = "x " }, api.ErrName},
		{func(f *api.File) { f.Notes[3].Name = "Opened" }, api.OK},
		{func(f *api.File) { f.Notes[3].Name = long }, api.OK},
		{func(f *api.File) { f.Notes[0].Day = api.Dating{First: 9, Last: 8} }, api.ErrRange},
		{func(f *api.File) { f.Notes[0].Day = api.Dating{First: -1, Last: 8} }, api.ErrRange},
		{func(f *api.File) { f.Notes[3].Day = api.Dating{First: 8, Last: api.Forever} }, api.ErrRange},
		{func(f *api.File) { f.Notes[3].Day = api.Dating{First: 0, Last: api.MaxDay} }, api.OK},
		{func(f *api.File) { f.Notes[0].Recorded = 11 }, api.ErrRange},
		{func(f *api.File) { f.Notes[0].Recorded = 12 }, api.OK},
		{func(f *api.File) { f.Notes[3].Recorded = api.MaxDay }, api.OK},
		{func(f *api.File) { f.Notes[3].Recorded = api.MaxDay + 1 }, api.ErrRange},
		{func(f *api.File) { f.Notes[0].Recorded = 21 }, api.ErrOrder},
		{func(f *api.File) { f.Notes[0].Recorded = 20 }, api.OK},
		{func(f *api.File) { f.Notes[3].Recorded = 19 }, api.ErrOrder},
		{func(f *api.File) { f.Notes[3].Recorded = 20 }, api.OK},
	} {
		l := some()
		x.change(&l[1])
		want := 1
		if x.e == api.OK {
			want = -1
		}
		if at, e := check(l); at != want || e != x.e {
			t.Error(i, at, e)
		}
	}
}

// P8.1: of several faults of one file the first one of the table counts. Each change makes one fault, and can be joined with those behind it.
func TestCheckOrderOfFaults(t *testing.T) {
	faults := []struct {
		change func(f *api.File)
		e      api.Errno
	}{
		{func(f *api.File) { f.Points = 101 }, api.ErrRange},
		{func(f *api.File) { f.ID = 1 }, api.ErrOrder},
		{func(f *api.File) { f.Title = "" }, api.ErrName},
		{func(f *api.File) { f.Office = 5 }, api.ErrNotFound},
		{func(f *api.File) { f.Class = "3" }, api.ErrNoPlan},
		{func(f *api.File) { f.Notes = append(f.Notes, make([]api.Note, api.MaxNotes)...) }, api.ErrTooLarge},
		{func(f *api.File) { f.Notes = append(f.Notes, note("opened", 1, 1, 33)) }, api.ErrName},
		{func(f *api.File) { f.Notes = append(f.Notes, note("x", 2, 1, 33)) }, api.ErrRange},
		{func(f *api.File) { f.Notes = append(f.Notes, note("x", 1, 1, 32)) }, api.ErrOrder},
	}
	for set := range 1 << len(faults) {
		l := some()
		at, want := -1, api.OK
		for k := len(faults) - 1; k >= 0; k-- {
			if set>>k&1 == 1 {
				faults[k].change(&l[1])
				at, want = 1, faults[k].e
			}
		}
		if i, e := check(l); i != at || e != want {
			t.Errorf("%b %v %v %v", set, i, e, want)
		}
	}
}

// P8.1: faults that belong to no file are ahead of all others, and the first file with a fault counts.
func TestCheckFirst(t *testing.T) {
	offices, plans := someOffices(), somePlans()
	badOffices, badPlans := someOffices(), somePlans()
	badOffices[1].Name = ""
	badPlans[2].Moved = nil
	tooMany := make([]api.File, api.MaxFiles+1)
	two := some()
	two[1].Office = 0
	two[2].ID = 0
	for i, x := range []struct {
		offices []api.Office
		plans   []api.Plan
		l       []api.File
		at      int
		e       api.Errno
	}{
		{nil, nil, nil, -1, api.OK},
		{badOffices, plans, nil, -1, api.ErrArg},
		{offices, badPlans, nil, -1, api.ErrArg},
		{badOffices, badPlans, tooMany, -1, api.ErrArg},
		{badOffices, plans, some(), -1, api.ErrArg},
		{offices, plans, tooMany, -1, api.ErrTooLarge},
		{offices, plans, tooMany[1:], 0, api.ErrRange},
		{offices, plans, two, 1, api.ErrNotFound},
		{offices, plans, two[1:], 0, api.ErrNotFound},
		{offices, plans, two[2:], 0, api.ErrRange},
		{nil, plans, some(), 0, api.ErrNotFound},
		{offices, nil, some(), 0, api.ErrNoPlan},
		{offices, plans, []api.File{one(2), one(2)}, 1, api.ErrOrder},
		{offices, plans, []api.File{one(5), one(3)}, 1, api.ErrOrder},
		{offices, plans, []api.File{one(api.MaxID)}, -1, api.OK},
		{offices, plans, []api.File{one(api.MaxID - 1), one(api.MaxID), one(api.MaxID + 1)}, 2, api.ErrRange},
	} {
		if at, e := file.Check(x.offices, x.plans, x.l); at != x.at || e != x.e {
			t.Error(i, at, e)
		}
	}
}

// P8.1: the greatest number of files.
func TestCheckMany(t *testing.T) {
	var l []api.File
	for id := 1; id <= api.MaxFiles; id++ {
		l = append(l, one(id))
	}
	if at, e := check(l); at != -1 || e != api.OK {
		t.Error(at, e)
	}
	l[255].Points = -1
	if at, e := check(l); at != 255 || e != api.ErrRange {
		t.Error(at, e)
	}
}

// P8.1: Find returns the first file with an ID, for any list.
func TestFind(t *testing.T) {
	l := []api.File{{ID: 7}, {ID: -2}, {ID: 7}, {}, {ID: math.MaxInt}, {}}
	for _, x := range [][2]int{{7, 0}, {-2, 1}, {0, 3}, {math.MaxInt, 4}, {5, -1}, {math.MinInt, -1}} {
		if i := file.Find(l, x[0]); i != x[1] {
			t.Error(x, i)
		}
	}
	if i := file.Find(nil, 0); i != -1 {
		t.Error(i)
	}
}

// randomFile returns a file that can have all faults.
func randomFile(r *rand.Rand) api.File {
	names := []string{"opened", "closed", "", "paid", "death"}
	f := api.File{ID: r.Intn(4), Opened: r.Intn(8) - 2, Closed: r.Intn(8) - 2}
	if r.Intn(4) == 0 {
		f.Closed = api.Forever
	}
	for range r.Intn(6) {
		f.Notes = append(f.Notes, note(names[r.Intn(len(names))], r.Intn(5)-1, r.Intn(5)-1, r.Intn(8)-2))
	}
	return f
}

// triggerOf is the trigger with a name by its definition.
func triggerOf(f api.File, name string, day int) (best api.Dating, found bool) {
	var days []api.Dating
	switch name {
	case "opened":
		if f.Opened <= day {
			days = append(days, api.Dating{First: f.Opened, Last: f.Opened})
		}
	case "closed":
		if f.Closed <= day {
			days = append(days, api.Dating{First: f.Closed, Last: f.Closed})
		}
	default:
		for _, n := range f.Notes {
			if n.Name == name && n.Recorded <= day {
				days = append(days, n.Day)
			}
		}
	}
	for _, d := range days {
		if !found || d.Last > best.Last || d.Last == best.Last && d.First > best.First {
			best, found = d, true
		}
	}
	return best, found
}

// stateOf is the state by its definition.
func stateOf(f api.File, day int) int {
	if day < f.Opened {
		return 0
	}
	if day < f.Closed {
		return 1
	}
	return 2
}

// knownOf are the known notes by their definition.
func knownOf(f api.File, day int) []api.Note {
	return slices.DeleteFunc(slices.Clone(f.Notes), func(n api.Note) bool { return n.Recorded > day })
}

// P8.2: Known, Trigger and State for any file, on any day.
func TestAnyFile(t *testing.T) {
	r := rand.New(rand.NewSource(8))
	for range 5000 {
		f := randomFile(r)
		for _, day := range []int{math.MinInt, -3, -2, -1, 0, 1, 2, 3, 4, 5, 6, api.MaxDay, api.Forever, math.MaxInt} {
			if got := file.Known(f, day); !slices.Equal(got, knownOf(f, day)) {
				t.Fatal(f, day, got)
			}
			if got := file.State(f, day); got != stateOf(f, day) {
				t.Fatal(f, day, got)
			}
			for _, name := range []string{"opened", "closed", "", "paid", "death", "Paid"} {
				want, found := triggerOf(f, name, day)
				if got, ok := file.Trigger(f, name, day); got != want || ok != found {
					t.Fatal(f, name, day, got, ok)
				}
			}
		}
	}
}

// P8.2: the example of the chapter.
func TestExample(t *testing.T) {
	f := api.File{Opened: 5, Closed: 30, Notes: []api.Note{note("audited", 20, 25, 26), note("audited", 22, 22, 40)}}
	for i, x := range []struct {
		name string
		day  int
		want api.Dating
		ok   bool
	}{
		{"audited", 25, api.Dating{}, false}, {"audited", 26, api.Dating{First: 20, Last: 25}, true}, {"audited", 41, api.Dating{First: 20, Last: 25}, true},
		{"closed", 29, api.Dating{}, false}, {"closed", 30, api.Dating{First: 30, Last: 30}, true}, {"opened", 4, api.Dating{}, false}, {"opened", 5, api.Dating{First: 5, Last: 5}, true},
	} {
		if got, ok := file.Trigger(f, x.name, x.day); got != x.want || ok != x.ok {
			t.Error(i, got, ok)
		}
	}
	for i, x := range [][2]int{{4, 0}, {5, 1}, {29, 1}, {30, 2}, {api.MaxDay, 2}} {
		if got := file.State(f, x[0]); got != x[1] {
			t.Error(i, got)
		}
	}
}

// P8.2: of several notes with one Last the one with the greatest First counts, wherever it stands.
func TestTriggerTies(t *testing.T) {
	l := []api.Note{note("paid", 5, 20, 12), note("paid", 9, 20, 12), note("paid", 7, 20, 12), note("paid", 19, 19, 12), note("sold", 21, 21, 12)}
	r := rand.New(rand.NewSource(2))
	for range 50 {
		r.Shuffle(len(l), func(i, k int) { l[i], l[k] = l[k], l[i] })
		if got, ok := file.Trigger(api.File{Notes: l}, "paid", 12); got != (api.Dating{First: 9, Last: 20}) || !ok {
			t.Error(l, got, ok)
		}
	}
}

// P8.3: the class on a day is what the class has become in the version of that day.
func TestClass(t *testing.T) {
	for i, x := range []struct {
		opened, day int
		class       string
		want        string
		e           api.Errno
	}{
		{12, 12, "1.1", "1.1", api.OK}, {12, 10, "1.1", "1.1", api.OK}, {12, 19, "1.1", "1.1", api.OK}, {12, 20, "1.1", "1.2", api.OK}, {12, 49, "1.1", "1.2", api.OK}, {12, 50, "1.1", "1", api.OK}, {12, 69, "1.1", "1", api.OK},
		{10, 50, "2", "4.1", api.OK}, {19, 20, "2", "3", api.OK}, {20, 50, "3", "4.1", api.OK}, {49, 20, "3", "3", api.OK}, {50, 69, "4", "4", api.OK},
		{12, 70, "1.1", "", api.ErrNoPlan}, {12, 9, "1.1", "", api.ErrNoPlan}, {12, -1, "1.1", "", api.ErrNoPlan}, {12, math.MinInt, "1.1", "", api.ErrNoPlan}, {12, math.MaxInt, "1.1", "", api.ErrNoPlan}, {12, api.Forever, "1.1", "", api.ErrNoPlan},
		{9, 12, "1.1", "", api.ErrNoPlan}, {70, 12, "1.1", "", api.ErrNoPlan}, {9, 9, "1.1", "", api.ErrNoPlan}, {9, 70, "1.1", "", api.ErrNoPlan}, {math.MinInt, math.MaxInt, "1", "", api.ErrNoPlan},
		{20, 19, "1", "", api.ErrNoPlan}, {50, 12, "1", "", api.ErrNoPlan}, {50, 49, "4", "", api.ErrNoPlan},
		{12, 20, "1.2", "", api.ErrNoPlan}, {12, 12, "3", "", api.ErrNoPlan}, {12, 12, "", "", api.ErrNoPlan}, {20, 50, "1.1", "", api.ErrNoPlan}, {20, 50, "x", "", api.ErrNoPlan},
	} {
		f := api.File{ID: -1, Opened: x.opened, Closed: -5, Class: x.class}
		if got, e := file.Class(somePlans(), f, x.day); got != x.want || e != x.e {
			t.Error(i, got, e)
		}
	}
	if got, e := file.Class(nil, one(1), 12); got != "" || e != api.ErrNoPlan {
		t.Error(got, e)
	}
}

// P8.3: versions with a fault are ahead of everything else, and the fault can be one of any version.
func TestClassFaults(t *testing.T) {
	for i, change := range []func(l []api.Plan){
		func(l []api.Plan) { l[0].In.From = -1 },
		func(l []api.Plan) { l[1].In.From = 21 },
		func(l []api.Plan) { l[2].Moved = nil },
		func(l []api.Plan) { l[2].Classes[0].Title = "" },
	} {
		plans := somePlans()
		change(plans)
		for _, f := range []api.File{one(1), {Opened: 9}, {Opened: 70, Class: "x"}} {
			for _, day := range []int{5, 12, 20, 70} {
				if got, e := file.Class(plans, f, day); got != "" || e != api.ErrArg {
					t.Error(i, f, day, got, e)
				}
			}
		}
	}
	if got, e := file.Class(make([]api.Plan, api.MaxPlans+1), one(1), 12); got != "" || e != api.ErrArg {
		t.Error(got, e)
	}
}

// P8.3: the class is followed from the version of the day Opened, for all days and classes.
func TestClassFollows(t *testing.T) {
	plans := somePlans()
	for opened := 8; opened < 72; opened++ {
		for day := 8; day < 72; day++ {
			from, to := plan.At(plans, opened), plan.At(plans, day)
			for _, c := range []string{"1", "1.1", "1.2", "2", "3", "4", "4.1"} {
				want, wantError := "", api.ErrNoPlan
				if from >= 0 && from <= to && plan.Has(plans[from], c) {
					want, wantError = plan.Follow(plans, from+1, to+1, c)
				}
				if got, e := file.Class(plans, api.File{Opened: opened, Class: c}, day); got != want || e != wantError {
					t.Fatal(opened, day, c, got, e)
				}
			}
		}
	}
}

// P8.4: Close changes the Closed of the first file with an ID, in any list, and nothing else.
func TestClose(t *testing.T) {
	l := []api.File{one(7), opened(3), {ID: 9, Opened: -20, Closed: api.Forever}, opened(3), opened(2)}
	for i, x := range []struct {
		id, day, at int
		e           api.Errno
	}{
		{3, 12, 1, api.OK}, {3, 40, 1, api.OK}, {3, api.MaxDay, 1, api.OK}, {2, 12, 4, api.OK}, {9, -20, 2, api.OK}, {9, 0, 2, api.OK},
		{1, 40, 0, api.ErrNotFound}, {0, -1, 0, api.ErrNotFound}, {math.MinInt, math.MaxInt, 0, api.ErrNotFound},
		{7, 40, 0, api.ErrState}, {7, 30, 0, api.ErrState}, {7, 11, 0, api.ErrState}, {7, math.MaxInt, 0, api.ErrState},
		{3, 11, 0, api.ErrRange}, {3, api.Forever, 0, api.ErrRange}, {3, math.MinInt, 0, api.ErrRange}, {3, math.MaxInt, 0, api.ErrRange}, {9, -21, 0, api.ErrRange},
	} {
		var want []api.File
		if x.e == api.OK {
			want = clone(l)
			want[x.at].Closed = x.day
		}
		given := clone(l)
		if got, e := file.Close(l, x.id, x.day); !same(got, want) || e != x.e || !same(l, given) {
			t.Error(i, got, e)
		}
	}
}

// P8.4: Add puts a note behind the others of the first file with an ID, in any list, and changes nothing else.
func TestAdd(t *testing.T) {
	l := []api.File{one(7), {ID: 3, Opened: -4}, one(3), {ID: 9, Opened: 5, Notes: []api.Note{note("", 9, 2, 700)}}}
	for i, x := range []struct {
		id, at int
		n      api.Note
		e      api.Errno
	}{
		{7, 0, note("sold", 3, 4, 33), api.OK}, {7, 0, note("paid", 0, api.MaxDay, api.MaxDay), api.OK}, {3, 1, note("a b", 1, 1, -4), api.OK}, {9, 3, note("x", 1, 1, 700), api.OK}, {7, 0, note(strings.Repeat("a", api.MaxName), 1, 1, 40), api.OK},
		{1, 0, note("sold", 3, 4, 33), api.ErrNotFound}, {0, 0, api.Note{}, api.ErrNotFound},
		{7, 0, note("opened", 3, 4, 33), api.ErrName}, {7, 0, note("closed", 3, 4, 33), api.ErrName}, {7, 0, note("", 3, 4, 33), api.ErrName}, {7, 0, note("a  b", 3, 4, 33), api.ErrName}, {7, 0, note(strings.Repeat("a", api.MaxName+1), 3, 4, 33), api.ErrName},
		{7, 0, note("sold", 4, 3, 33), api.ErrRange}, {7, 0, note("sold", -1, 3, 33), api.ErrRange}, {7, 0, note("sold", 4, api.Forever, 33), api.ErrRange}, {7, 0, note("sold", 4, 4, 11), api.ErrRange}, {7, 0, note("sold", 4, 4, api.Forever), api.ErrRange}, {3, 1, note("x", 1, 1, -5), api.ErrRange},
		{7, 0, note("sold", 4, 4, math.MinInt), api.ErrRange}, {7, 0, note("sold", 4, 4, math.MaxInt), api.ErrRange},
		{7, 0, note("sold", 4, 4, 32), api.ErrOrder}, {7, 0, note("sold", 4, 4, 12), api.ErrOrder}, {9, 3, note("x", 1, 1, 699), api.ErrOrder},
	} {
		var want []api.File
		if x.e == api.OK {
			want = clone(l)
			want[x.at].Notes = append(want[x.at].Notes, x.n)
		}
		given := clone(l)
		if got, e := file.Add(l, x.id, x.n); !same(got, want) || e != x.e || !same(l, given) {
			t.Error(i, got, e)
		}
	}
}

// P8.4: a file has 16 notes at most, and the errors of Add are in their order.
func TestAddFull(t *testing.T) {
	f := opened(1)
	for _, n := range []int{api.MaxNotes - 1, api.MaxNotes, api.MaxNotes + 1, 1000} {
		f.Notes = slices.Repeat([]api.Note{note("x", 1, 1, 20)}, n)
		for i, x := range []struct {
			n api.Note
			e api.Errno
		}{{note("y", 1, 1, 20), api.OK}, {note("y", 1, 1, 19), api.ErrOrder}, {note("y", 1, 0, 19), api.ErrRange}, {note("y", 1, 1, 11), api.ErrRange}, {note("closed", 1, 0, 19), api.ErrName}} {
			want := x.e
			if n >= api.MaxNotes {
				want = api.ErrFull
			}
			l, e := file.Add([]api.File{f}, 1, x.n)
			if e != want || (e == api.OK) != (len(l) == 1) || e == api.OK && len(l[0].Notes) != n+1 {
				t.Error(n, i, l, e)
			}
		}
	}
	if l, e := file.Add([]api.File{f}, 2, api.Note{}); len(l) != 0 || e != api.ErrNotFound {
		t.Error(l, e)
	}
}

// P8.5: on a later day more is known, and the Last of a trigger does not fall.
func TestMoreIsKnown(t *testing.T) {
	r := rand.New(rand.NewSource(4))
	for range 2000 {
		f := randomFile(r)
		for day := -3; day < 8; day++ {
			before, after := file.Known(f, day), file.Known(f, day+1)
			for _, n := range before {
				if !slices.Contains(after, n) {
					t.Fatal(f, day, n)
				}
			}
			for _, name := range []string{"opened", "closed", "paid", "death"} {
				a, ok := file.Trigger(f, name, day)
				b, later := file.Trigger(f, name, day+1)
				if ok && (!later || b.Last < a.Last) {
					t.Fatal(f, day, name, a, b, later)
				}
			}
		}
	}
}

// P8.5: a note changes no trigger of the days before it was recorded.
func TestNotesKeepThePast(t *testing.T) {
	for _, n := range []api.Note{note("paid", 0, 99, 33), note("paid", 18, 18, 40), note("death", 99, 99, 34), note("x", 1, 2, 50)} {
		l, e := file.Add(some(), 7, n)
		if e != api.OK {
			t.Fatal(n, e)
		}
		for day := range n.Recorded {
			for _, name := range []string{"opened", "closed", "paid", "death", "x"} {
				a, ok := file.Trigger(one(7), name, day)
				if b, again := file.Trigger(l[1], name, day); a != b || ok != again {
					t.Fatal(n, day, name, a, b)
				}
			}
		}
	}
}

// P8.5: closing and adding lead from lists without a fault to such lists.
func TestChangesStayValid(t *testing.T) {
	r := rand.New(rand.NewSource(6))
	for range 300 {
		l := []api.File{opened(2), opened(4), one(5)}
		for range 25 {
			id := 1 + r.Intn(5)
			next, e := file.Add(l, id, note("event", r.Intn(30), r.Intn(30), 10+r.Intn(80)))
			if r.Intn(4) == 0 {
				next, e = file.Close(l, id, r.Intn(60))
			}
			if e != api.OK {
				continue
			}
			if at, e := check(next); at != -1 || e != api.OK {
				t.Fatal(next, at, e)
			}
			l = next
		}
	}
}

// P8.2, P8.4: arguments are not modified, and results share no memory with them, nor with each other.
func TestMemory(t *testing.T) {
	shared := make([]api.Note, 1, 10)
	shared[0] = note("paid", 13, 18, 18)
	f := opened(1)
	f.Notes = shared
	l := []api.File{f, f}
	l[1].Notes = append(shared, note("a", 1, 1, 20))
	known := file.Known(f, 99)
	closed, e := file.Close(l, 1, 40)
	added, ee := file.Add(l, 1, note("b", 1, 1, 20))
	if e != api.OK || ee != api.OK {
		t.Fatal(e, ee)
	}
	clear(known[:cap(known)])
	for _, result := range [][]api.File{closed, added} {
		before := slices.Clone(result[1].Notes)
		clear(result[0].Notes[:cap(result[0].Notes)])
		if !slices.Equal(result[1].Notes, before) {
			t.Error("two files of a result share their notes")
		}
		clear(result[1].Notes[:cap(result[1].Notes)])
		clear(result[:cap(result)])
	}
	if len(l) != 2 || !slices.Equal(l[1].Notes, []api.Note{note("paid", 13, 18, 18), note("a", 1, 1, 20)}) || !slices.Equal(l[0].Notes, l[1].Notes[:1]) || l[0].Closed != api.Forever {
		t.Error(l)
	}
}
