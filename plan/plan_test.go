package plan_test

import (
	"fmt"
	"math"
	"math/rand"
	"reflect"
	"slices"
	"strconv"
	"strings"
	"testing"

	"archivum/api"
	"archivum/code"
	"archivum/plan"
)

// version returns a version with some codes.
func version(n, from, until int, codes ...string) api.Plan {
	p := api.Plan{Version: n, In: api.Span{From: from, Until: until}}
	for _, c := range codes {
		p.Classes = append(p.Classes, class(c))
	}
	return p
}

func class(c string) api.Class {
	return api.Class{Code: c, Title: "Class " + strings.ReplaceAll(c, " ", "")}
}

// example returns the versions of the chapter's example.
func example() []api.Plan {
	l := []api.Plan{version(1, 10, 20, "1", "1.1", "1.2", "2"), version(2, 20, api.Forever, "1", "1.2", "2", "3")}
	l[1].Moved = []api.Moved{{From: "2", To: "3"}}
	return l
}

// three returns three versions; the class 8 of the second one is kept only by Moved.
func three() []api.Plan {
	l := []api.Plan{
		version(1, 0, 10, "1", "1.1", "2", "2.1", "2.1.1", "10"),
		version(2, 10, 20, "1", "1.2", "2", "3", "8", "10"),
		version(3, 20, api.Forever, "1", "2", "2.5", "3", "10", "10.1"),
	}
	l[1].Moved = []api.Moved{{From: "1.1", To: "8"}, {From: "2.1", To: "3"}}
	l[2].Moved = []api.Moved{{From: "8", To: "2.5"}, {From: "10", To: "10.1"}}
	return l
}

// clone returns a copy of a list that shares no memory with it.
func clone(l []api.Plan) []api.Plan {
	m := slices.Clone(l)
	for i := range m {
		m[i].Classes = slices.Clone(m[i].Classes)
		m[i].Moved = slices.Clone(m[i].Moved)
	}
	return m
}

// codesOf returns the codes of a version, in order.
func codesOf(p api.Plan) []string {
	var codes []string
	for _, c := range p.Classes {
		codes = append(codes, c.Code)
	}
	return codes
}

// isWithin is the definition of within, for class codes.
func isWithin(c, above string) bool { return strings.HasPrefix(c+".", above+".") }

// isCode reports whether a string is a class code.
func isCode(s string) bool {
	_, e := code.Parse(s)
	return e == api.OK
}

// nextOf is the next class of a class by its definition.
func nextOf(old, next api.Plan, c string) (string, bool) {
	if !slices.Contains(codesOf(old), c) {
		return "", false
	}
	for _, m := range next.Moved {
		if m.From == c {
			return m.To, true
		}
	}
	best, found := "", false
	for _, other := range codesOf(next) {
		if other == c {
			return c, true
		}
		if isCode(c) && isCode(other) && isWithin(c, other) && len(other) > len(best) {
			best, found = other, true
		}
	}
	return best, found
}

// followed is what a class of the version with an index is in a later one, for a list without a fault.
func followed(l []api.Plan, from, to int, c string) string {
	if from == to {
		return c
	}
	next, _ := nextOf(l[from], l[from+1], c)
	return followed(l, from+1, to, next)
}

// randomCodes returns codes in order, with all their parents.
func randomCodes(r *rand.Rand) []string {
	numbers := []string{"1", "2", "9", "10", "11"}
	in := map[string]bool{}
	for range 1 + r.Intn(8) {
		c := numbers[r.Intn(len(numbers))]
		in[c] = true
		for range r.Intn(4) {
			c += "." + numbers[r.Intn(3)]
			in[c] = true
		}
	}
	var codes []string
	for c := range in {
		codes = append(codes, c)
	}
	slices.SortFunc(codes, order)
	return codes
}

func order(a, b string) int {
	n, _ := code.Compare(a, b)
	return n
}

// randomList returns a list without a fault.
func randomList(r *rand.Rand) []api.Plan {
	var l []api.Plan
	day := r.Intn(3)
	for n := range r.Intn(7) {
		p := version(n+1, day, day+1+r.Intn(4), randomCodes(r)...)
		day = p.In.Until
		if n > 0 {
			for _, c := range codesOf(l[n-1]) {
				if _, ok := nextOf(l[n-1], p, c); !ok || r.Intn(5) == 0 {
					p.Moved = append(p.Moved, api.Moved{From: c, To: p.Classes[r.Intn(len(p.Classes))].Code})
				}
			}
		}
		l = append(l, p)
	}
	if len(l) > 0 && r.Intn(2) == 0 {
		l[len(l)-1].In.Until = api.Forever
	}
	return l
}

// eachList calls see with lists without a fault: the empty one, the examples, and many at random.
func eachList(t *testing.T, see func(l []api.Plan)) {
	r := rand.New(rand.NewSource(7))
	lists := [][]api.Plan{nil, {}, example(), three()}
	for range 80 {
		lists = append(lists, randomList(r))
	}
	for _, l := range lists {
		if i, e := plan.Check(l); i != -1 || e != api.OK {
			t.Fatal(l, i, e)
		}
		see(l)
	}
}

// faulty returns lists with a fault.
func faulty() [][]api.Plan {
	l := [][]api.Plan{make([]api.Plan, 17), {{}}, {version(2, 0, 5, "1")}, {version(1, 0, 5, "1.1")}, {version(1, 0, 5, "1"), version(2, 6, 7, "1")}, {version(1, 0, 5, "1"), version(2, 5, 9, "2")}}
	last := three()
	last[2].Classes[5].Title = ""
	return append(l, last)
}

// P7.1: each fault alone, at its limits.
func TestCheckFaults(t *testing.T) {
	for i, x := range []struct {
		change func(l []api.Plan)
		at     int
		e      api.Errno
	}{
		{func(l []api.Plan) {}, -1, api.OK},
		{func(l []api.Plan) { l[0].Version = 0 }, 0, api.ErrRange},
		{func(l []api.Plan) { l[0].Version = 2 }, 0, api.ErrRange},
		{func(l []api.Plan) { l[1].Version = 1 }, 1, api.ErrRange},
		{func(l []api.Plan) { l[2].Version = 4 }, 2, api.ErrRange},
		{func(l []api.Plan) { l[2].Version = math.MinInt }, 2, api.ErrRange},
		{func(l []api.Plan) { l[0].In.From = -1 }, 0, api.ErrRange},
		{func(l []api.Plan) { l[0].In.From = 10 }, 0, api.ErrRange},
		{func(l []api.Plan) { l[0].In.From = 9 }, -1, api.OK},
		{func(l []api.Plan) { l[1].In.Until = 10 }, 1, api.ErrRange},
		{func(l []api.Plan) { l[2].In.Until = api.Forever + 1 }, 2, api.ErrRange},
		{func(l []api.Plan) { l[2].In.Until = 21 }, -1, api.OK},
		{func(l []api.Plan) { l[1].In.Until, l[2].In.From = api.Forever, api.Forever }, 2, api.ErrRange},
		{func(l []api.Plan) { l[1].In.From = 11 }, 1, api.ErrGap},
		{func(l []api.Plan) { l[1].In.From = 9 }, 1, api.ErrGap},
		{func(l []api.Plan) { l[1].In.Until = 19 }, 2, api.ErrGap},
		{func(l []api.Plan) { l[1].In.Until = 21 }, 2, api.ErrGap},
		{func(l []api.Plan) { l[1].Classes[5].Code = "" }, 1, api.ErrSyntax},
		{func(l []api.Plan) { l[1].Classes[5].Code = "x" }, 1, api.ErrSyntax},
		{func(l []api.Plan) { l[1].Classes[5].Code = "010" }, 1, api.ErrSyntax},
		{func(l []api.Plan) { l[1].Classes[5].Code = "1000" }, 1, api.ErrSyntax},
		{func(l []api.Plan) { l[2].Classes[0].Title = "" }, 2, api.ErrName},
		{func(l []api.Plan) { l[2].Classes[0].Title = "a  b" }, 2, api.ErrName},
		{func(l []api.Plan) { l[2].Classes[5].Title = " a" }, 2, api.ErrName},
		{func(l []api.Plan) { l[2].Classes[5].Title = strings.Repeat("a", api.MaxName) }, -1, api.OK},
		{func(l []api.Plan) { l[2].Classes[5].Title = strings.Repeat("a", api.MaxName+1) }, 2, api.ErrName},
		{func(l []api.Plan) { l[2].Classes[5].Title = l[2].Classes[4].Title }, -1, api.OK},
		{func(l []api.Plan) { l[0].Classes[5].Code = "2.1.1" }, 0, api.ErrOrder},
		{func(l []api.Plan) { slices.Reverse(l[0].Classes[:2]) }, 0, api.ErrOrder},
		{func(l []api.Plan) { l[2].Classes = append(l[2].Classes, class("9")) }, 2, api.ErrOrder},
		{func(l []api.Plan) { l[2].Classes = append(l[2].Classes, class("11")) }, -1, api.OK},
		{func(l []api.Plan) { l[2].Classes = append(l[2].Classes, class("11.1")) }, 2, api.ErrNotFound},
		{func(l []api.Plan) { l[2].Classes = append(l[2].Classes, class("10.2.1")) }, 2, api.ErrNotFound},
		{func(l []api.Plan) { l[2].Classes = append(l[2].Classes, class("10.1.1")) }, -1, api.OK},
		{func(l []api.Plan) { l[0].Classes = l[0].Classes[1:] }, 0, api.ErrNotFound},
		{func(l []api.Plan) { l[0].Moved = []api.Moved{{From: "1", To: "1"}} }, 0, api.ErrArg},
		{func(l []api.Plan) { l[0].Moved = []api.Moved{} }, -1, api.OK},
		{func(l []api.Plan) { l[1].Moved[0].From = "3" }, 1, api.ErrNotFound},
		{func(l []api.Plan) { l[1].Moved[0].From = "" }, 1, api.ErrNotFound},
		{func(l []api.Plan) { l[1].Moved[0].From = "x" }, 1, api.ErrNotFound},
		{func(l []api.Plan) { l[1].Moved[1].To = "1.1" }, 1, api.ErrNotFound},
		{func(l []api.Plan) { l[1].Moved[1].To = "" }, 1, api.ErrNotFound},
		{func(l []api.Plan) { l[2].Moved[0].From = "1.1" }, 2, api.ErrNotFound},
		{func(l []api.Plan) { l[1].Moved[1].From = "1.1" }, 1, api.ErrOrder},
		{func(l []api.Plan) { slices.Reverse(l[1].Moved) }, 1, api.ErrOrder},
		{func(l []api.Plan) { slices.Reverse(l[2].Moved) }, 2, api.ErrOrder},
		{func(l []api.Plan) { l[1].Moved[1].To = "8" }, -1, api.OK},
		{func(l []api.Plan) { l[1].Moved[1].From = "10" }, -1, api.OK},
		{func(l []api.Plan) { l[2].Moved = nil }, 2, api.ErrNoPlan},
		{func(l []api.Plan) { l[2].Moved = l[2].Moved[:1] }, -1, api.OK},
		{func(l []api.Plan) { l[1].Classes = nil; l[1].Moved = nil }, 1, api.ErrNoPlan},
		{func(l []api.Plan) { l[0].Classes = nil; l[1].Moved = nil }, -1, api.OK},
	} {
		l := three()
		x.change(l)
		if at, e := plan.Check(l); at != x.at || e != x.e {
			t.Error(i, at, e)
		}
	}
}

// P7.1: of several faults of one version the first one of the table counts. Each change makes one fault, and can be joined with those behind it.
func TestCheckOrderOfFaults(t *testing.T) {
	faults := []struct {
		change func(p *api.Plan)
		e      api.Errno
	}{
		{func(p *api.Plan) { p.Version = 9 }, api.ErrRange},
		{func(p *api.Plan) { p.In.From++ }, api.ErrGap},
		{func(p *api.Plan) { p.Moved = append(p.Moved, make([]api.Moved, api.MaxClasses)...) }, api.ErrTooLarge},
		{func(p *api.Plan) { p.Classes = append(p.Classes, class("x")) }, api.ErrSyntax},
		{func(p *api.Plan) { p.Classes = append(p.Classes, api.Class{Code: "77"}) }, api.ErrName},
		{func(p *api.Plan) { p.Classes = append(p.Classes, class("1")) }, api.ErrOrder},
		{func(p *api.Plan) { p.Classes = append(p.Classes, class("66.1")) }, api.ErrNotFound},
		{func(p *api.Plan) { p.Moved = append(p.Moved, api.Moved{From: "7", To: "1"}) }, api.ErrNotFound},
		{func(p *api.Plan) { p.Moved = append(p.Moved, api.Moved{From: "1", To: "1"}) }, api.ErrOrder},
		{func(p *api.Plan) { p.Moved = p.Moved[1:] }, api.ErrNoPlan},
	}
	for set := range 1 << len(faults) {
		l := three()
		at, want := -1, api.OK
		for k := len(faults) - 1; k >= 0; k-- {
			if set>>k&1 == 1 {
				faults[k].change(&l[2])
				at, want = 2, faults[k].e
			}
		}
		if i, e := plan.Check(l); i != at || e != want {
			t.Errorf("%b %v %v %v", set, i, e, want)
		}
	}
}

// P7.1: the first version follows no other one, and what it moves counts behind its classes.
func TestCheckFirst(t *testing.T) {
	moved := []api.Moved{{From: "x", To: "y"}}
	for i, x := range []struct {
		classes []api.Class
		moved   []api.Moved
		at      int
		e       api.Errno
	}{
		{nil, nil, -1, api.OK},
		{nil, moved, 0, api.ErrArg},
		{[]api.Class{class("1")}, moved, 0, api.ErrArg},
		{[]api.Class{class("1.1")}, moved, 0, api.ErrNotFound},
		{[]api.Class{class("1"), class("1")}, moved, 0, api.ErrOrder},
		{nil, make([]api.Moved, api.MaxClasses), 0, api.ErrArg},
		{nil, make([]api.Moved, api.MaxClasses+1), 0, api.ErrTooLarge},
	} {
		p := api.Plan{Version: 1, In: api.Span{From: 1000, Until: 1001}, Classes: x.classes, Moved: x.moved}
		if at, e := plan.Check([]api.Plan{p}); at != x.at || e != x.e {
			t.Error(i, at, e)
		}
	}
}

// P7.1: the first version with a fault counts, whatever the fault is.
func TestCheckFirstVersion(t *testing.T) {
	l := three()
	l[2].Version = 7
	l[1].Moved[0].To = "4"
	if i, e := plan.Check(l); i != 1 || e != api.ErrNotFound {
		t.Error(i, e)
	}
	l[0].Classes[5].Title = ""
	if i, e := plan.Check(l); i != 0 || e != api.ErrName {
		t.Error(i, e)
	}
	// A class without a next class is a fault of the version behind it.
	l = three()
	l[1].Classes = l[1].Classes[:4]
	l[1].Moved[0].To = "3"
	if i, e := plan.Check(l); i != 1 || e != api.ErrNoPlan {
		t.Error(i, e)
	}
}

// many returns n classes.
func many(n int) []api.Class {
	var l []api.Class
	for i := 1; i <= n; i++ {
		l = append(l, class(strconv.Itoa(i)))
	}
	return l
}

// P7.1: the greatest numbers of versions, of classes and of moved ones, and more.
func TestCheckLimits(t *testing.T) {
	var l []api.Plan
	for n := 1; n <= api.MaxPlans; n++ {
		p := api.Plan{Version: n, In: api.Span{From: n, Until: n + 1}, Classes: many(api.MaxClasses)}
		if n > 1 {
			for _, c := range p.Classes {
				p.Moved = append(p.Moved, api.Moved{From: c.Code, To: "5"})
			}
		}
		l = append(l, p)
	}
	if i, e := plan.Check(l); i != -1 || e != api.OK {
		t.Error(i, e)
	}
	if s, e := plan.Sources(l, 1, api.MaxPlans, "5"); !slices.Equal(s, codesOf(l[0])) || e != api.OK {
		t.Error(s, e)
	}
	for _, version := range []int{1, 17} {
		if i, e := plan.Check(append(clone(l), api.Plan{Version: version})); i != -1 || e != api.ErrTooLarge {
			t.Error(i, e)
		}
	}
	tooMany := clone(l)
	tooMany[3].Classes = many(api.MaxClasses + 1)
	if i, e := plan.Check(tooMany); i != 3 || e != api.ErrTooLarge {
		t.Error(i, e)
	}
	tooMany = clone(l)
	tooMany[4].Moved = append(tooMany[4].Moved, api.Moved{})
	if i, e := plan.Check(tooMany); i != 4 || e != api.ErrTooLarge {
		t.Error(i, e)
	}
}

// P7.1: At finds the version on each day at bounds and beside them; none in a list with a fault.
func TestAt(t *testing.T) {
	eachList(t, func(l []api.Plan) {
		days := []int{math.MinInt, -1, 0, api.MaxDay, api.Forever, math.MaxInt}
		for _, p := range l {
			days = append(days, p.In.From-1, p.In.From, p.In.Until-1, p.In.Until)
		}
		for _, day := range days {
			want := -1
			for i, p := range l {
				if p.In.From <= day && day < p.In.Until {
					want = i
				}
			}
			if i := plan.At(l, day); i != want {
				t.Fatal(l, day, i, want)
			}
		}
	})
	for k, l := range faulty() {
		for _, day := range []int{-1, 0, 5, 25} {
			if i := plan.At(l, day); i != -1 {
				t.Error(k, day, i)
			}
		}
	}
}

// P7.1: Has finds the codes of any version, and nothing else.
func TestHas(t *testing.T) {
	p := version(-4, 7, 3, "2", "", "1.x", "2", "007")
	for _, c := range []string{"2", "", "1.x", "007"} {
		if !plan.Has(p, c) {
			t.Error(c)
		}
	}
	for _, c := range []string{"1", "7", "2.1", "1.", "Class 2"} {
		if plan.Has(p, c) {
			t.Error(c)
		}
	}
	if plan.Has(api.Plan{}, "") || !plan.Has(example()[0], "1.2") || plan.Has(example()[0], "3") {
		t.Error("example")
	}
}

// P7.2: Next by its definition, for all versions behind one another.
func TestNext(t *testing.T) {
	eachList(t, func(l []api.Plan) {
		for i := 1; i < len(l); i++ {
			for _, c := range append(codesOf(l[i-1]), append(codesOf(l[i]), "", "x", "5", "1.5")...) {
				want, found := nextOf(l[i-1], l[i], c)
				if next, ok := plan.Next(l[i-1], l[i], c); next != want || ok != found {
					t.Fatal(l[i-1], l[i], c, next, ok)
				}
			}
		}
	})
}

// P7.2: any two versions, with faults or not one behind the other.
func TestNextAnyVersions(t *testing.T) {
	r := rand.New(rand.NewSource(8))
	pool := []string{"", "x", "1", "1.1", "1.1.1", "1.1.1.1", "1.2", "11", "01", "1.", ".1", "1.0", "1.1.1.1.1.1.1", "2"}
	pick := func() (l []string) {
		for range r.Intn(6) {
			l = append(l, pool[r.Intn(len(pool))])
		}
		return l
	}
	for range 20000 {
		old, next := version(r.Intn(3), 5, r.Intn(9), pick()...), version(r.Intn(3), 5, r.Intn(9), pick()...)
		for range r.Intn(3) {
			next.Moved = append(next.Moved, api.Moved{From: pool[r.Intn(len(pool))], To: pool[r.Intn(len(pool))]})
		}
		c := pool[r.Intn(len(pool))]
		want, found := nextOf(old, next, c)
		if got, ok := plan.Next(old, next, c); got != want || ok != found {
			t.Fatal(old, next, c, got, ok, want, found)
		}
	}
}

// P7.2: Moved is ahead of the same code, this one ahead of those above it, and of these the longest one counts.
func TestNextOrder(t *testing.T) {
	old := version(1, 0, 5, "3", "3.1", "3.1.4", "3.11", "30")
	for i, x := range []struct {
		next api.Plan
		code string
		want string
		ok   bool
	}{
		{version(2, 5, 9, "3", "3.1", "3.1.4"), "3.1.4", "3.1.4", true},
		{version(2, 5, 9, "3", "3.1"), "3.1.4", "3.1", true},
		{version(2, 5, 9, "3.1", "3"), "3.1.4", "3.1", true},
		{version(2, 5, 9, "3"), "3.1.4", "3", true},
		{version(2, 5, 9, "3", "3.1"), "3.11", "3", true},
		{version(2, 5, 9, "3", "3.1"), "30", "", false},
		{version(2, 5, 9), "3", "", false},
		{version(2, 5, 9, "3", "3.1", "3.2"), "3.2", "", false},
		{version(2, 5, 9, "3.1.4.1"), "3.1.4", "", false},
		{api.Plan{Classes: many(3), Moved: []api.Moved{{From: "3", To: "1"}, {From: "3", To: "2"}}}, "3", "1", true},
		{api.Plan{Classes: many(3), Moved: []api.Moved{{From: "3", To: "77"}}}, "3", "77", true},
		{api.Plan{Classes: many(3), Moved: []api.Moved{{From: "3", To: "1"}}}, "3.1", "3", true},
		{api.Plan{Classes: many(3), Moved: []api.Moved{{From: "5", To: "1"}}}, "5", "", false},
	} {
		if next, ok := plan.Next(old, x.next, x.code); next != x.want || ok != x.ok {
			t.Error(i, next, ok)
		}
	}
}

// P7.3: Follow and Sources by their definitions, between all versions and for all classes.
func TestFollowSources(t *testing.T) {
	eachList(t, func(l []api.Plan) {
		for from := range l {
			for to := from; to < len(l); to++ {
				sources := map[string][]string{}
				for _, c := range codesOf(l[from]) {
					want := followed(l, from, to, c)
					sources[want] = append(sources[want], c)
					if got, e := plan.Follow(l, from+1, to+1, c); got != want || e != api.OK {
						t.Fatal(l, from, to, c, got, e)
					}
				}
				for _, c := range codesOf(l[to]) {
					if got, e := plan.Sources(l, from+1, to+1, c); !slices.Equal(got, sources[c]) || e != api.OK {
						t.Fatal(l, from, to, c, got, e)
					}
				}
			}
		}
	})
}

// P7.3: the example of the chapter.
func TestExample(t *testing.T) {
	l := example()
	for c, want := range map[string]string{"1": "1", "1.1": "1", "1.2": "1.2", "2": "3"} {
		if got, e := plan.Follow(l, 1, 2, c); got != want || e != api.OK {
			t.Error(c, got, e)
		}
	}
	for c, want := range map[string][]string{"1": {"1", "1.1"}, "1.2": {"1.2"}, "2": nil, "3": {"2"}} {
		if got, e := plan.Sources(l, 1, 2, c); !slices.Equal(got, want) || e != api.OK {
			t.Error(c, got, e)
		}
	}
}

// P7.3: the errors of Follow and Sources, in their order.
func TestFollowSourcesErrors(t *testing.T) {
	for i, l := range faulty() {
		for _, x := range []struct {
			from, to int
			code     string
		}{{1, 1, "1"}, {0, 9, "x"}, {2, 1, ""}} {
			if c, e := plan.Follow(l, x.from, x.to, x.code); c != "" || e != api.ErrArg {
				t.Error(i, c, e)
			}
			if s, e := plan.Sources(l, x.from, x.to, x.code); len(s) != 0 || e != api.ErrArg {
				t.Error(i, s, e)
			}
		}
	}
	for i, x := range []struct {
		from, to        int
		code            string
		follow, sources api.Errno
	}{
		{0, 1, "1", api.ErrNotFound, api.ErrNotFound}, {-1, -1, "1", api.ErrNotFound, api.ErrNotFound}, {1, 4, "1", api.ErrNotFound, api.ErrNotFound}, {4, 4, "1", api.ErrNotFound, api.ErrNotFound},
		{2, 1, "1", api.ErrNotFound, api.ErrNotFound}, {3, 2, "1", api.ErrNotFound, api.ErrNotFound},
		{math.MinInt, math.MaxInt, "1", api.ErrNotFound, api.ErrNotFound}, {math.MaxInt, math.MinInt, "1", api.ErrNotFound, api.ErrNotFound}, {1, math.MaxInt, "1", api.ErrNotFound, api.ErrNotFound},
		{1, 2, "1.1", api.OK, api.ErrNotFound}, {1, 2, "1.2", api.ErrNotFound, api.OK}, {1, 2, "", api.ErrNotFound, api.ErrNotFound}, {1, 2, "x", api.ErrNotFound, api.ErrNotFound}, {1, 3, "8", api.ErrNotFound, api.ErrNotFound},
		{2, 3, "8", api.OK, api.ErrNotFound}, {3, 3, "2.5", api.OK, api.OK}, {1, 3, "2.5", api.ErrNotFound, api.OK},
	} {
		if c, e := plan.Follow(three(), x.from, x.to, x.code); e != x.follow || (c != "") != (e == api.OK) {
			t.Error(i, c, e)
		}
		if s, e := plan.Sources(three(), x.from, x.to, x.code); e != x.sources || len(s) != 0 && e != api.OK {
			t.Error(i, s, e)
		}
	}
	if c, e := plan.Follow(nil, 1, 1, "1"); c != "" || e != api.ErrNotFound {
		t.Error(c, e)
	}
	if s, e := plan.Sources(nil, 1, 1, "1"); len(s) != 0 || e != api.ErrNotFound {
		t.Error(s, e)
	}
}

// P7.4: Children by their definition.
func TestChildren(t *testing.T) {
	eachList(t, func(l []api.Plan) {
		for _, p := range l {
			for _, above := range append(codesOf(p), "", "x", "5", "1.") {
				var want []string
				for _, c := range codesOf(p) {
					if at := strings.LastIndexByte(c, '.'); c[:max(at, 0)] == above {
						want = append(want, c)
					}
				}
				if got := plan.Children(p, above); !slices.Equal(got, want) {
					t.Fatal(p, above, got, want)
				}
			}
		}
	})
}

// P7.4: any version, whose classes stand in any order, more than once, without parents, or with codes that are none.
func TestChildrenAnyVersion(t *testing.T) {
	p := version(9, 8, 7, "2.1", "x", "2", "", "1.1.7", "2.1", "x.1", "1", "2.10", "2.01", ".1", "1000", "2.1.", "2.1.1.1.1.1", "2.1.1.1.1.1.1", "2.1000", "30")
	for _, x := range []struct {
		above string
		want  []string
	}{
		{"", []string{"2", "1", "30"}},
		{"2", []string{"2.1", "2.1", "2.10"}},
		{"1.1", []string{"1.1.7"}},
		{"2.1.1.1.1", []string{"2.1.1.1.1.1"}},
		{"2.1.1.1.1.1", nil}, {"1", nil}, {"x", nil}, {"3", nil}, {"30", nil}, {"2.", nil}, {"02", nil}, {"0", nil}, {"1000", nil},
	} {
		if got := plan.Children(p, x.above); !slices.Equal(got, x.want) {
			t.Error(x.above, got)
		}
	}
	if got := plan.Children(api.Plan{}, ""); len(got) != 0 {
		t.Error(got)
	}
}

// P7.5: following by way of a version between is following.
func TestFollowTwice(t *testing.T) {
	eachList(t, func(l []api.Plan) {
		for from := range l {
			for by := from; by < len(l); by++ {
				for to := by; to < len(l); to++ {
					for _, c := range codesOf(l[from]) {
						once, e := plan.Follow(l, from+1, to+1, c)
						half, f := plan.Follow(l, from+1, by+1, c)
						twice, g := plan.Follow(l, by+1, to+1, half)
						if once != twice || e != api.OK || f != api.OK || g != api.OK {
							t.Fatal(l, from, by, to, c, once, half, twice)
						}
					}
				}
			}
		}
	})
}

// P7.5: the sources of all classes are all classes, each once.
func TestSourcesOfAll(t *testing.T) {
	eachList(t, func(l []api.Plan) {
		for from := range l {
			for to := from; to < len(l); to++ {
				var all []string
				for _, c := range codesOf(l[to]) {
					s, e := plan.Sources(l, from+1, to+1, c)
					if e != api.OK || !slices.IsSortedFunc(s, order) {
						t.Fatal(l, from, to, c, s, e)
					}
					all = append(all, s...)
				}
				slices.SortFunc(all, order)
				if !slices.Equal(all, codesOf(l[from])) {
					t.Fatal(l, from, to, all)
				}
			}
		}
	})
}

// P7.1 to P7.4: arguments are not modified, and results are newly allocated.
func TestArguments(t *testing.T) {
	l := three()
	run := func() string {
		follow, _ := plan.Follow(l, 1, 3, "1.1")
		sources, _ := plan.Sources(l, 1, 3, "1")
		next, ok := plan.Next(l[0], l[1], "2.1.1")
		children := plan.Children(l[0], "")
		at, e := plan.Check(l)
		text := fmt.Sprint(follow, sources, next, ok, children, at, e, plan.At(l, 12), plan.Has(l[0], "1"))
		for _, result := range [][]string{sources, children} {
			clear(result[:cap(result)])
		}
		return text
	}
	if first, again := run(), run(); first != again || !reflect.DeepEqual(l, three()) {
		t.Error(first, again, l)
	}
}
