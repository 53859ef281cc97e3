package hold_test

import (
	"math"
	"math/rand"
	"reflect"
	"slices"
	"strconv"
	"strings"
	"testing"

	"archivum/api"
	"archivum/file"
	"archivum/hold"
	"archivum/office"
	"archivum/plan"
)

// someOffices returns offices that follow each other: 1 is followed by 3 and 2 on day 20, 3 by 4 on day 40, 4 by nothing on day 60.
func someOffices() []api.Office {
	return []api.Office{
		{ID: 1, Name: "Mills", In: api.Span{From: 0, Until: 20}, Next: []int{3, 2}},
		{ID: 2, Name: "Works", In: api.Span{From: 20, Until: api.Forever}},
		{ID: 3, Name: "Mills and weirs", In: api.Span{From: 20, Until: 40}, Next: []int{4}},
		{ID: 4, Name: "Water", In: api.Span{From: 40, Until: 60}},
	}
}

// somePlans returns three versions, in force from day 3 to 79: 1.1 becomes 1.2, and then 1 again; 2 becomes 3, and then 4.1.
func somePlans() []api.Plan {
	l := []api.Plan{{Version: 1, In: api.Span{From: 3, Until: 30}}, {Version: 2, In: api.Span{From: 30, Until: 50}}, {Version: 3, In: api.Span{From: 50, Until: 80}}}
	for i, codes := range [][]string{{"1", "1.1", "2", "10"}, {"1", "1.2", "3", "10"}, {"1", "4", "4.1", "10"}} {
		for _, c := range codes {
			l[i].Classes = append(l[i].Classes, api.Class{Code: c, Title: "Class " + c})
		}
	}
	l[1].Moved = []api.Moved{{From: "1.1", To: "1.2"}, {From: "2", To: "3"}}
	l[2].Moved = []api.Moved{{From: "3", To: "4.1"}}
	return l
}

// theFile returns the file 7 of the office 1 in the class 1.1, opened on day 5.
func theFile() api.File {
	return api.File{ID: 7, Office: 1, Opened: 5, Closed: 10, Class: "1.1", Title: "Letters"}
}

// someFiles returns files without a fault.
func someFiles() []api.File {
	return []api.File{
		theFile(),
		{ID: 8, Office: 1, Opened: 19, Closed: api.Forever, Class: "2", Title: "Letters"},
		{ID: 11, Office: 2, Opened: 29, Closed: 29, Class: "10", Title: "Letters"},
		{ID: 12, Office: 3, Opened: 31, Closed: 50, Class: "1", Title: "Letters"},
		{ID: 15, Office: 4, Opened: 55, Closed: 70, Class: "4.1", Title: "Letters"},
	}
}

// in returns a hold in a span; of is an ID or a class code.
func in(from, until, kind int, of any) api.Hold {
	h := api.Hold{ID: 1, Kind: kind, Reason: "Inquiry", In: api.Span{From: from, Until: until}}
	h.Of, _ = of.(int)
	h.Class, _ = of.(string)
	return h
}

// some returns holds without a fault, of all kinds.
func some() []api.Hold {
	l := []api.Hold{in(0, 50, api.HoldOffice, 3), in(10, api.Forever, api.HoldClass, "1"), in(0, 45, api.HoldClass, "1.2"), in(25, 50, api.HoldFile, 7), in(0, 200, api.HoldOffice, 1), in(0, 200, api.HoldClass, "3")}
	for i := range l {
		l[i].ID = 3*i + 2
	}
	return l
}

// days are all days on which something can change, and some beyond.
func days() []int {
	l := []int{math.MinInt, -1, api.MaxDay, api.Forever, math.MaxInt}
	for d := range 90 {
		l = append(l, d)
	}
	return l
}

// isWithin says whether a class code is another one or below it; strings with other bytes are no codes in these tests.
func isWithin(c, above string) bool {
	return c != "" && above != "" && strings.Trim(c+above, "0123456789.") == "" && strings.HasPrefix(c+".", above+".")
}

// isCovered is the definition of what a hold covers.
func isCovered(offices []api.Office, plans []api.Plan, h api.Hold, f api.File, day int) bool {
	if day < h.In.From || day >= h.In.Until {
		return false
	}
	switch h.Kind {
	case 1:
		return h.Of == f.ID
	case 2:
		return slices.Contains(office.Chain(offices, f.Office, day), h.Of)
	case 3:
		class, e := file.Class(plans, f, day)
		return e == api.OK && isWithin(class, h.Class)
	}
	return false
}

// faultOf returns the first fault of a hold behind one with an ID (0 if there is none), as the table has it.
func faultOf(h api.Hold, before int) api.Errno {
	isID := func(n int) bool { return 1 <= n && n <= 1<<30 }
	inSpan := 0 <= h.In.From && h.In.From < h.In.Until && h.In.Until <= 1<<20
	isClass := h.Class != "" && slices.Contains([]string{"1", "1.1", "1.2", "10.999", "1.2.3.4.5.6"}, h.Class)
	switch {
	case !isID(h.ID) || !slices.Contains([]int{1, 2, 3}, h.Kind) || !inSpan:
		return api.ErrRange
	case h.ID <= before:
		return api.ErrOrder
	case h.Kind != 3 && (!isID(h.Of) || h.Class != "") || h.Kind == 3 && h.Of != 0:
		return api.ErrArg
	case h.Kind == 3 && !isClass:
		return api.ErrSyntax
	case !slices.Contains([]string{"Inquiry", "a~!", "Court of 1", strings.Repeat("a", 64)}, h.Reason):
		return api.ErrName
	}
	return api.OK
}

func pick[T any](r *rand.Rand, l ...T) T { return l[r.Intn(len(l))] }

// randomList returns holds, most of them without a fault.
func randomList(r *rand.Rand) []api.Hold {
	var l []api.Hold
	id := 0
	for range r.Intn(6) {
		id += 1 + r.Intn(3)
		from := pick(r, 0, 1, 10, api.MaxDay)
		h := in(from, pick(r, from+1, api.Forever), pick(r, 1, 2), pick(r, 1, 5, api.MaxID))
		if r.Intn(2) == 0 {
			h = in(from, pick(r, from+1, api.Forever), 3, pick(r, "1", "1.1", "1.2", "10.999", "1.2.3.4.5.6"))
		}
		h.ID, h.Reason = id, pick(r, "Inquiry", "a~!", "Court of 1", strings.Repeat("a", 64))
		l = append(l, h)
	}
	return l
}

// spoil changes one part of a hold.
func spoil(r *rand.Rand, h *api.Hold) {
	switch r.Intn(7) {
	case 0:
		h.ID = pick(r, 0, -1, 1, 4, api.MaxID, api.MaxID+1, math.MinInt, math.MaxInt)
	case 1:
		h.Kind = pick(r, -1, 0, 1, 2, 3, 4, math.MinInt, math.MaxInt)
	case 2:
		h.Of = pick(r, -1, 0, 1, api.MaxID, api.MaxID+1, math.MinInt, math.MaxInt)
	case 3:
		h.Class = pick(r, "", "1", "x", "01", "1.", ".", "1.1000", "1.2.3.4.5.6.7", "10.999")
	case 4:
		h.Reason = pick(r, "", " a", "a ", "a  b", "a\n", "a\x7f", "\x80", strings.Repeat("a", 65))
	case 5:
		h.In.From = pick(r, -1, 0, h.In.Until-1, h.In.Until, math.MinInt, math.MaxInt)
	case 6:
		h.In.Until = pick(r, 0, h.In.From, h.In.From+1, api.Forever, api.Forever+1, math.MinInt, math.MaxInt)
	}
}

// P10.1: each fault alone, at its limits.
func TestCheckFaults(t *testing.T) {
	for i, x := range []struct {
		change func(h *api.Hold)
		e      api.Errno
	}{
		{func(h *api.Hold) {}, api.OK},
		{func(h *api.Hold) { h.ID = api.MaxID }, api.OK},
		{func(h *api.Hold) { h.ID = api.MaxID + 1 }, api.ErrRange},
		{func(h *api.Hold) { h.ID = 0 }, api.ErrRange},
		{func(h *api.Hold) { h.ID = math.MinInt }, api.ErrRange},
		{func(h *api.Hold) { h.Kind = 0 }, api.ErrRange},
		{func(h *api.Hold) { h.Kind = 4 }, api.ErrRange},
		{func(h *api.Hold) { h.Kind = -1 }, api.ErrRange},
		{func(h *api.Hold) { h.Kind = api.HoldOffice }, api.OK},
		{func(h *api.Hold) { h.In.From = -1 }, api.ErrRange},
		{func(h *api.Hold) { h.In.From = 0 }, api.OK},
		{func(h *api.Hold) { h.In.From = 19 }, api.OK},
		{func(h *api.Hold) { h.In.From = 20 }, api.ErrRange},
		{func(h *api.Hold) { h.In.Until = api.Forever }, api.OK},
		{func(h *api.Hold) { h.In.Until = api.Forever + 1 }, api.ErrRange},
		{func(h *api.Hold) { h.ID = 4 }, api.ErrOrder},
		{func(h *api.Hold) { h.ID = 3 }, api.ErrOrder},
		{func(h *api.Hold) { h.ID = 1 }, api.ErrOrder},
		{func(h *api.Hold) { h.Of = 0 }, api.ErrArg},
		{func(h *api.Hold) { h.Of = -1 }, api.ErrArg},
		{func(h *api.Hold) { h.Of = api.MaxID }, api.OK},
		{func(h *api.Hold) { h.Of = api.MaxID + 1 }, api.ErrArg},
		{func(h *api.Hold) { h.Class = "1" }, api.ErrArg},
		{func(h *api.Hold) { h.Kind, h.Of = api.HoldOffice, 0 }, api.ErrArg},
		{func(h *api.Hold) { h.Kind, h.Of = api.HoldOffice, api.MaxID+1 }, api.ErrArg},
		{func(h *api.Hold) { h.Kind, h.Class = api.HoldOffice, "x" }, api.ErrArg},
		{func(h *api.Hold) { h.Kind, h.Class = api.HoldClass, "1" }, api.ErrArg},
		{func(h *api.Hold) { h.Kind, h.Of, h.Class = api.HoldClass, -1, "1" }, api.ErrArg},
		{func(h *api.Hold) { h.Kind, h.Of, h.Class = api.HoldClass, 0, "1" }, api.OK},
		{func(h *api.Hold) { h.Kind, h.Of, h.Class = api.HoldClass, 0, "1.2.3.4.5.6" }, api.OK},
		{func(h *api.Hold) { h.Kind, h.Of, h.Class = api.HoldClass, 0, "" }, api.ErrSyntax},
		{func(h *api.Hold) { h.Kind, h.Of, h.Class = api.HoldClass, 0, "1.01" }, api.ErrSyntax},
		{func(h *api.Hold) { h.Reason = "" }, api.ErrName},
		{func(h *api.Hold) { h.Reason = "a " }, api.ErrName},
		{func(h *api.Hold) { h.Reason = strings.Repeat("a", 64) }, api.OK},
		{func(h *api.Hold) { h.Reason = strings.Repeat("a", 65) }, api.ErrName},
		{func(h *api.Hold) { h.Reason = `a "b"` }, api.OK},
	} {
		l := []api.Hold{in(10, 20, api.HoldFile, 2), in(10, 20, api.HoldFile, 2)}
		l[0].ID, l[1].ID = 4, 5
		x.change(&l[1])
		want := 1
		if x.e == api.OK {
			want = -1
		}
		if at, e := hold.Check(l); at != want || e != x.e {
			t.Error(i, at, e)
		}
	}
}

// P10.1: of several faults of one hold the first one of the table counts, for each kind.
func TestCheckOrderOfFaults(t *testing.T) {
	faults := []struct {
		change func(h *api.Hold)
		e      api.Errno
	}{
		{func(h *api.Hold) { h.In.Until = h.In.From }, api.ErrRange},
		{func(h *api.Hold) { h.ID = 2 }, api.ErrOrder},
		{func(h *api.Hold) { h.Of = -1 }, api.ErrArg},
		{func(h *api.Hold) { h.Class = "x" }, api.ErrSyntax},
		{func(h *api.Hold) { h.Reason = "" }, api.ErrName},
	}
	for set := range 1 << len(faults) {
		for place := 1; place < 4; place++ {
			l := some()
			at, want := -1, api.OK
			for k := len(faults) - 1; k >= 0; k-- {
				if set>>k&1 == 1 {
					faults[k].change(&l[place])
					at, want = place, faults[k].e
				}
			}
			if want == api.ErrSyntax && l[place].Kind != api.HoldClass {
				want = api.ErrArg
			}
			if i, e := hold.Check(l); i != at || e != want {
				t.Errorf("%b %v %v %v", set, i, e, want)
			}
		}
	}
}

// P10.1: the first hold with a fault counts, and a list has 64 holds at most.
func TestCheckFirst(t *testing.T) {
	l := some()
	l[2].Reason, l[3].ID = "", 0
	if at, e := hold.Check(l); at != 2 || e != api.ErrName {
		t.Error(at, e)
	}
	for _, empty := range [][]api.Hold{nil, {}} {
		if at, e := hold.Check(empty); at != -1 || e != api.OK {
			t.Error(at, e)
		}
	}
	var many []api.Hold
	for id := range 65 {
		h := in(10, 20, api.HoldFile, 2)
		h.ID = id + 1
		many = append(many, h)
	}
	if at, e := hold.Check(many[:64]); at != -1 || e != api.OK {
		t.Error(at, e)
	}
	if at, e := hold.Check(many); at != -1 || e != api.ErrTooLarge {
		t.Error(at, e)
	}
	many[0].Kind = 0
	if at, e := hold.Check(many); at != -1 || e != api.ErrTooLarge {
		t.Error(at, e)
	}
	if at, e := hold.Check(many[:64]); at != 0 || e != api.ErrRange {
		t.Error(at, e)
	}
}

// P10.1: many lists, with and without faults.
func TestCheckLists(t *testing.T) {
	r := rand.New(rand.NewSource(1))
	for range 20000 {
		l := randomList(r)
		for range r.Intn(4) {
			if len(l) > 0 {
				spoil(r, &l[r.Intn(len(l))])
			}
		}
		wantAt, want, before := -1, api.OK, 0
		for i, h := range l {
			if e := faultOf(h, before); e != api.OK {
				wantAt, want = i, e
				break
			}
			before = h.ID
		}
		if at, e := hold.Check(l); at != wantAt || e != want {
			t.Fatal(l, at, e, wantAt, want)
		}
	}
}

// P10.2: what holds of each kind cover, day by day.
func TestCovers(t *testing.T) {
	for i, x := range []struct {
		h    api.Hold
		days []api.Span
	}{
		{in(10, 100, api.HoldFile, 7), []api.Span{{From: 10, Until: 90}}},
		{in(0, 50, api.HoldFile, 7), []api.Span{{From: 0, Until: 50}}},
		{in(10, 100, api.HoldFile, 1), nil},
		{in(10, 100, api.HoldOffice, 1), []api.Span{{From: 10, Until: 90}}},
		{in(10, 100, api.HoldOffice, 2), nil},
		{in(10, 100, api.HoldOffice, 3), []api.Span{{From: 20, Until: 90}}},
		{in(10, 100, api.HoldOffice, 4), []api.Span{{From: 40, Until: 90}}},
		{in(10, 30, api.HoldOffice, 3), []api.Span{{From: 20, Until: 30}}},
		{in(10, 100, api.HoldOffice, 7), nil},
		{in(0, 100, api.HoldClass, "1"), []api.Span{{From: 3, Until: 80}}},
		{in(10, 100, api.HoldClass, "1.1"), []api.Span{{From: 10, Until: 30}}},
		{in(10, 100, api.HoldClass, "1.2"), []api.Span{{From: 30, Until: 50}}},
		{in(10, 100, api.HoldClass, "10"), nil},
		{in(10, 100, api.HoldClass, "1.1.1"), nil},
		{in(10, 100, api.HoldClass, ""), nil},
		{in(10, 100, api.HoldClass, "x"), nil},
		{in(10, 100, 0, 7), nil},
		{in(10, 100, 4, 7), nil},
		{in(10, 100, -1, 7), nil},
		{in(10, 100, math.MinInt, 7), nil},
		{in(10, 100, math.MaxInt, 7), nil},
		{in(10, 10, api.HoldFile, 7), nil},
		{in(20, 10, api.HoldFile, 7), nil},
	} {
		for d := range 90 {
			want := slices.ContainsFunc(x.days, func(s api.Span) bool { return s.From <= d && d < s.Until })
			if got := hold.Covers(someOffices(), somePlans(), x.h, theFile(), d); got != want {
				t.Error(i, d, got)
			}
		}
	}
}

// P10.2: the example of the chapter.
func TestExample(t *testing.T) {
	offices := []api.Office{{ID: 1, Name: "A", In: api.Span{From: 0, Until: 100}, Next: []int{2}}, {ID: 2, Name: "B", In: api.Span{From: 100, Until: api.Forever}}}
	f := api.File{ID: 5, Office: 1}
	for d := 40; d < 210; d++ {
		own := hold.Covers(offices, nil, in(50, 200, api.HoldOffice, 1), f, d)
		heir := hold.Covers(offices, nil, in(50, 200, api.HoldOffice, 2), f, d)
		if own != (50 <= d && d < 200) || heir != (100 <= d && d < 200) {
			t.Error(d, own, heir)
		}
	}
}

// P10.2: offices with a fault have no chains, and versions with a fault give no class.
func TestCoversFaulty(t *testing.T) {
	offices, plans := someOffices(), somePlans()
	offices[3].Name, plans[2].Classes[0].Title = "", ""
	late, strange := theFile(), theFile()
	late.Opened, strange.Class = 31, "2.2"
	for i, x := range []struct {
		offices []api.Office
		plans   []api.Plan
		f       api.File
		want    []bool // of a hold of the file, one of its office, one of its class
	}{
		{someOffices(), somePlans(), theFile(), []bool{true, true, true}},
		{offices, somePlans(), theFile(), []bool{true, false, true}},
		{nil, somePlans(), theFile(), []bool{true, false, true}},
		{someOffices(), plans, theFile(), []bool{true, true, false}},
		{someOffices(), nil, theFile(), []bool{true, true, false}},
		{someOffices(), somePlans(), late, []bool{true, true, false}},
		{someOffices(), somePlans(), strange, []bool{true, true, false}},
		{nil, nil, theFile(), []bool{true, false, false}},
	} {
		for k, h := range []api.Hold{in(0, 50, api.HoldFile, 7), in(0, 50, api.HoldOffice, 1), in(0, 50, api.HoldClass, "1")} {
			if got := hold.Covers(x.offices, x.plans, h, x.f, 20); got != x.want[k] {
				t.Error(i, k, got)
			}
		}
	}
	if hold.Covers(someOffices(), somePlans(), in(0, 50, api.HoldOffice, 9), api.File{ID: 1, Office: 9}, 20) {
		t.Error("an office that is not there")
	}
}

// anyHold returns a hold that can be of any kind and have any fault.
func anyHold(r *rand.Rand) api.Hold {
	h := api.Hold{ID: r.Intn(9), Kind: pick(r, 1, 2, 3, 1, 2, 3, 0, 4, -1), Of: pick(r, 0, 1, 2, 3, 4, 7, 8, 11), Class: pick(r, "", "1", "1.1", "1.2", "10", "3", "4", "4.1", "x")}
	h.In = api.Span{From: r.Intn(70) - 5, Until: pick(r, r.Intn(90), api.Forever, math.MaxInt)}
	return h
}

// P10.2: Covers, Holding and Covered for any holds and files, on all days.
func TestAnyHolds(t *testing.T) {
	r := rand.New(rand.NewSource(2))
	for range 60 {
		offices, plans, files := someOffices(), somePlans(), someFiles()
		switch r.Intn(6) {
		case 0:
			offices[r.Intn(4)].ID = r.Intn(5)
		case 1:
			plans[r.Intn(3)].In.From++
		case 2:
			files[r.Intn(5)].Opened = r.Intn(90) - 5
		}
		files = append(files, files[r.Intn(5)], api.File{})
		var l []api.Hold
		for range r.Intn(8) {
			l = append(l, anyHold(r))
		}
		for _, d := range days() {
			compare(t, offices, plans, l, files, d)
		}
	}
}

// compare compares what covers what on a day with the definition.
func compare(t *testing.T, offices []api.Office, plans []api.Plan, l []api.Hold, files []api.File, day int) {
	t.Helper()
	for _, f := range files {
		var want []int
		for _, h := range l {
			covers := isCovered(offices, plans, h, f, day)
			if covers {
				want = append(want, h.ID)
			}
			if got := hold.Covers(offices, plans, h, f, day); got != covers {
				t.Fatal(h, f, day, got)
			}
		}
		if got := hold.Holding(offices, plans, l, f, day); !slices.Equal(got, want) {
			t.Fatal(l, f, day, got, want)
		}
	}
	for _, h := range l {
		var want []int
		for _, f := range files {
			if isCovered(offices, plans, h, f, day) {
				want = append(want, f.ID)
			}
		}
		if got := hold.Covered(offices, plans, h, files, day); !slices.Equal(got, want) {
			t.Fatal(h, day, got, want)
		}
	}
}

// P10.2: the IDs of holds and files are in the order of their list, also if this is no order of IDs.
func TestOrderOfLists(t *testing.T) {
	l := some()
	slices.Reverse(l)
	for d, want := range map[int][]int{9: {14}, 10: {14, 5}, 20: {14, 5, 2}, 25: {14, 11, 5, 2}, 30: {14, 11, 8, 5, 2}, 45: {14, 11, 5, 2}, 50: {14, 5}, 80: {14}, 200: nil} {
		if got := hold.Holding(someOffices(), somePlans(), l, theFile(), d); !slices.Equal(got, want) {
			t.Error(d, got)
		}
	}
	files := someFiles()
	slices.Reverse(files)
	for d, want := range map[int][]int{9: nil, 28: {7}, 31: {12, 7}, 55: {12, 7}} {
		if got := hold.Covered(someOffices(), somePlans(), in(10, 80, api.HoldClass, "1"), files, d); !slices.Equal(got, want) {
			t.Error(d, got)
		}
	}
	if got := hold.Covered(someOffices(), somePlans(), in(0, 80, api.HoldOffice, 3), files, 20); !slices.Equal(got, []int{12, 8, 7}) {
		t.Error(got)
	}
}

// P10.2: holds of one list are each decided on their own, however many there are, with as many versions and classes as there can be.
func TestMany(t *testing.T) {
	const deep = "1.1.1.1.1"
	var classes []api.Class
	for length := 1; length <= len(deep); length += 2 {
		classes = append(classes, api.Class{Code: deep[:length], Title: "Class"})
	}
	for n := len(classes); n < api.MaxClasses; n++ {
		classes = append(classes, api.Class{Code: deep + "." + strconv.Itoa(n), Title: "Class"})
	}
	var plans []api.Plan
	for v := range api.MaxPlans {
		plans = append(plans, api.Plan{Version: v + 1, In: api.Span{From: 10 * v, Until: 10 * (v + 1)}, Classes: classes})
	}
	if _, e := plan.Check(plans); e != api.OK {
		t.Fatal(e)
	}
	var l []api.Hold
	var want []int
	for id := range api.MaxHolds {
		h := in(0, api.Forever, api.HoldClass, deep[:2*(id%5)+1])
		h.ID = id + 1
		l, want = append(l, h), append(want, h.ID)
	}
	var files []api.File
	var ids []int
	for id := range api.MaxFiles {
		files, ids = append(files, api.File{ID: id + 1, Opened: id % 160, Class: deep}), append(ids, id+1)
	}
	if got := hold.Holding(nil, plans, l, files[0], 159); !slices.Equal(got, want) {
		t.Error(got)
	}
	if got := hold.Covered(nil, plans, l[4], files, 159); !slices.Equal(got, ids) {
		t.Error(got)
	}
}

// P10.3: Release cuts the span of one hold and changes nothing else.
func TestRelease(t *testing.T) {
	for i, h := range some() {
		for _, d := range []int{h.In.From + 1, h.In.Until - 1, h.In.Until} {
			want := some()
			want[i].In.Until = d
			if got, e := hold.Release(some(), h.ID, d); e != api.OK || !slices.Equal(got, want) {
				t.Error(h.ID, d, got, e)
			}
		}
		for _, d := range []int{h.In.From, h.In.From - 1, h.In.Until + 1, math.MinInt, math.MaxInt} {
			if got, e := hold.Release(some(), h.ID, d); e != api.ErrRange || len(got) != 0 {
				t.Error(h.ID, d, got, e)
			}
		}
	}
}

// P10.3: the errors of Release, in their order.
func TestReleaseErrors(t *testing.T) {
	faulty := some()
	faulty[5].Reason = ""
	for i, x := range []struct {
		l       []api.Hold
		id, day int
		e       api.Errno
	}{
		{faulty, 2, 30, api.ErrArg},
		{faulty, 99, -1, api.ErrArg},
		{make([]api.Hold, 65), 0, 0, api.ErrArg},
		{some(), 99, -1, api.ErrNotFound},
		{some(), 3, 30, api.ErrNotFound},
		{some(), 0, 30, api.ErrNotFound},
		{nil, 1, 30, api.ErrNotFound},
		{some(), 2, 0, api.ErrRange},
		{some(), 2, 51, api.ErrRange},
		{some(), 2, 50, api.OK},
	} {
		if got, e := hold.Release(x.l, x.id, x.day); e != x.e || e != api.OK && len(got) != 0 {
			t.Error(i, got, e)
		}
	}
}

// P10.4: a hold of a class covers whatever a hold of a class below it covers.
func TestClassesAbove(t *testing.T) {
	for _, c := range []string{"1.1", "1.2", "4.1", "1.1.1", "10.1"} {
		above, _, _ := strings.Cut(c, ".")
		for _, d := range days() {
			covered := hold.Covered(someOffices(), somePlans(), in(0, 70, api.HoldClass, above), someFiles(), d)
			for _, id := range hold.Covered(someOffices(), somePlans(), in(0, 70, api.HoldClass, c), someFiles(), d) {
				if !slices.Contains(covered, id) {
					t.Error(c, d, id)
				}
			}
		}
	}
}

// P10.4: the office that has the duties for a file can hold it, and so can its own office.
func TestOfficesCanHold(t *testing.T) {
	for _, f := range someFiles() {
		for d := range 90 {
			if !hold.Covers(someOffices(), nil, in(0, 90, api.HoldOffice, f.Office), f, d) {
				t.Error(f.ID, d)
			}
			heir, ok := office.Heir(someOffices(), f.Office, d)
			if ok && !hold.Covers(someOffices(), nil, in(0, 90, api.HoldOffice, heir), f, d) {
				t.Error(f.ID, heir, d)
			}
		}
	}
}

// P10.4: releasing a hold changes nothing on the days before, and the hold covers nothing from then on.
func TestReleaseKeepsThePast(t *testing.T) {
	for _, h := range some() {
		for _, day := range []int{26, 44, 45} {
			released, e := hold.Release(some(), h.ID, day)
			if _, f := hold.Check(released); e != api.OK || f != api.OK {
				t.Fatal(h.ID, day, e, f)
			}
			for d := range 90 {
				want := hold.Holding(someOffices(), somePlans(), some(), theFile(), d)
				if d >= day {
					want = slices.DeleteFunc(want, func(id int) bool { return id == h.ID })
				}
				if got := hold.Holding(someOffices(), somePlans(), released, theFile(), d); !slices.Equal(got, want) {
					t.Error(h.ID, day, d, got, want)
				}
			}
		}
	}
}

// P10.2, P10.3: arguments are not modified, and results share no memory with them.
func TestMemory(t *testing.T) {
	offices, plans, l, files := someOffices(), somePlans(), some(), someFiles()
	hold.Holding(offices, plans, l, files[0], 30)
	hold.Covered(offices, plans, l[0], files, 30)
	released, _ := hold.Release(l, 2, 50)
	released[1].Class = "9"
	if !reflect.DeepEqual(offices, someOffices()) || !reflect.DeepEqual(plans, somePlans()) || !slices.Equal(l, some()) || !reflect.DeepEqual(files, someFiles()) {
		t.Error("an argument has changed")
	}
}
