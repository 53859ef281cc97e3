package office_test

import (
	"fmt"
	"math"
	"math/rand"
	"reflect"
	"slices"
	"strconv"
	"strings"
	"testing"

	"archivum/api"
	"archivum/office"
)

// example returns the offices of the chapter's example.
func example() []api.Office {
	return []api.Office{
		one(1, 0, 100, 2, 3),
		one(2, 100, 200, 4),
		one(3, 100, api.Forever),
		one(4, 200, api.Forever),
	}
}

func one(id, from, until int, next ...int) api.Office {
	return api.Office{ID: id, Name: "Office " + strconv.Itoa(id), In: api.Span{From: from, Until: until}, Next: next}
}

// bounds are the days on which the offices of random lists begin and end.
var bounds = []int{0, 1, 5, 6, 40, 1000, api.MaxDay, api.Forever}

// days are days around all bounds, and numbers that are no days.
func days() []int {
	l := []int{math.MinInt, math.MaxInt}
	for _, b := range bounds {
		l = append(l, b-1, b, b+1)
	}
	return l
}

// randomList returns a list without a fault.
func randomList(r *rand.Rand) []api.Office {
	var l []api.Office
	id := 0
	for range r.Intn(12) {
		id += 1 + r.Intn(3)
		from := r.Intn(len(bounds) - 1)
		until := from + 1 + r.Intn(min(2, len(bounds)-1-from))
		l = append(l, one(id, bounds[from], bounds[until]))
	}
	for i := range l {
		for _, k := range r.Perm(len(l)) {
			if l[k].In.From == l[i].In.Until && r.Intn(3) > 0 && len(l[i].Next) < 8 {
				l[i].Next = append(l[i].Next, l[k].ID)
			}
		}
	}
	return l
}

// eachList calls see with lists without a fault: the empty one, the example, and many at random.
func eachList(t *testing.T, see func(l []api.Office)) {
	r := rand.New(rand.NewSource(3))
	lists := [][]api.Office{nil, example()}
	for range 80 {
		lists = append(lists, randomList(r))
	}
	for _, l := range lists {
		if i, e := office.Check(l); i != -1 || e != api.OK {
			t.Fatal(l, i, e)
		}
		see(l)
	}
}

// in reports whether an office is in force on a day.
func in(o api.Office, day int) bool { return o.In.From <= day && day < o.In.Until }

// get returns the office with an ID of a list that has it.
func get(l []api.Office, id int) api.Office {
	return l[slices.IndexFunc(l, func(o api.Office) bool { return o.ID == id })]
}

// chainOf is the chain by its definition.
func chainOf(l []api.Office, id, day int) []int {
	o := get(l, id)
	if in(o, day) || len(o.Next) == 0 {
		return []int{id}
	}
	return append([]int{id}, chainOf(l, o.Next[0], day)...)
}

// heirOf is the office that has the duties of another one; 0 if there is none.
func heirOf(l []api.Office, id, day int) int {
	c := chainOf(l, id, day)
	if last := c[len(c)-1]; in(get(l, last), day) {
		return last
	}
	return 0
}

// ids returns the IDs of a list.
func ids(l []api.Office) []int {
	var all []int
	for _, o := range l {
		all = append(all, o.ID)
	}
	return all
}

// clone returns a copy of a list that shares no memory with it.
func clone(l []api.Office) []api.Office {
	m := slices.Clone(l)
	for i := range m {
		m[i].Next = slices.Clone(m[i].Next)
	}
	return m
}

// same reports whether two lists have the same offices.
func same(l, m []api.Office) bool {
	return slices.EqualFunc(l, m, func(a, b api.Office) bool {
		return a.ID == b.ID && a.Name == b.Name && a.In == b.In && slices.Equal(a.Next, b.Next)
	})
}

// P6.1: each fault alone, at its limits.
func TestCheckFaults(t *testing.T) {
	for i, x := range []struct {
		change func(l []api.Office)
		at     int
		e      api.Errno
	}{
		{func(l []api.Office) { l[0].ID = 0 }, 0, api.ErrRange},
		{func(l []api.Office) { l[0].ID = -1 }, 0, api.ErrRange},
		{func(l []api.Office) { l[0].ID = math.MinInt }, 0, api.ErrRange},
		{func(l []api.Office) { l[3].ID = api.MaxID; l[1].Next[0] = api.MaxID }, -1, api.OK},
		{func(l []api.Office) { l[3].ID = api.MaxID + 1; l[1].Next[0] = api.MaxID + 1 }, 3, api.ErrRange},
		{func(l []api.Office) { l[3].ID = math.MaxInt; l[1].Next[0] = math.MaxInt }, 3, api.ErrRange},
		{func(l []api.Office) { l[0].In.From = -1 }, 0, api.ErrRange},
		{func(l []api.Office) { l[0].In.From = 100 }, 0, api.ErrRange},
		{func(l []api.Office) { l[0].In.From = 101 }, 0, api.ErrRange},
		{func(l []api.Office) { l[2].In.Until = api.Forever + 1 }, 2, api.ErrRange},
		{func(l []api.Office) { l[2].In.Until = math.MaxInt }, 2, api.ErrRange},
		{func(l []api.Office) { l[2].In.Until = math.MinInt }, 2, api.ErrRange},
		{func(l []api.Office) { l[0].Name = "" }, 0, api.ErrName},
		{func(l []api.Office) { l[0].Name = "a  b" }, 0, api.ErrName},
		{func(l []api.Office) { l[3].Name = " a" }, 3, api.ErrName},
		{func(l []api.Office) { l[3].Name = strings.Repeat("a", api.MaxName) }, -1, api.OK},
		{func(l []api.Office) { l[3].Name = strings.Repeat("a", api.MaxName+1) }, 3, api.ErrName},
		{func(l []api.Office) { l[1].Name = l[0].Name }, -1, api.OK},
		{func(l []api.Office) { l[2].ID = 2; l[0].Next = []int{2} }, 2, api.ErrOrder},
		{func(l []api.Office) { l[2].ID = 1; l[0].Next = []int{2} }, 2, api.ErrOrder},
		{func(l []api.Office) { l[0].Next = []int{2, 2} }, 0, api.ErrTwice},
		{func(l []api.Office) { l[0].Next = []int{2, 3, 2} }, 0, api.ErrTwice},
		{func(l []api.Office) { l[0].Next = []int{5} }, 0, api.ErrNotFound},
		{func(l []api.Office) { l[0].Next = []int{2, 0} }, 0, api.ErrNotFound},
		{func(l []api.Office) { l[0].Next = []int{2, -3} }, 0, api.ErrNotFound},
		{func(l []api.Office) { l[0].Next = []int{1} }, 0, api.ErrMismatch},
		{func(l []api.Office) { l[0].Next = []int{2, 4} }, 0, api.ErrMismatch},
		{func(l []api.Office) { l[0].In.Until = 99 }, 0, api.ErrMismatch},
		{func(l []api.Office) { l[3].In.From = 201 }, 1, api.ErrMismatch},
		{func(l []api.Office) { l[3].In.From = 199 }, 1, api.ErrMismatch},
		{func(l []api.Office) { l[2].Next = []int{4} }, 2, api.ErrMismatch},
		{func(l []api.Office) { l[2].Next = []int{1} }, 2, api.ErrMismatch},
		{func(l []api.Office) { l[0].Next = []int{3, 2}; l[1].Next = nil }, -1, api.OK},
	} {
		l := example()
		x.change(l)
		if at, e := office.Check(l); at != x.at || e != x.e {
			t.Error(i, at, e)
		}
	}
}

// P6.1: of two faults of one office the first one of the table counts. Each change makes one fault alone, and can be joined with those behind it.
func TestCheckOrderOfFaults(t *testing.T) {
	faults := []struct {
		change func(o *api.Office)
		e      api.Errno
	}{
		{func(o *api.Office) { o.In.From = -1 }, api.ErrRange},
		{func(o *api.Office) { o.Name = "" }, api.ErrName},
		{func(o *api.Office) { o.ID = 1 }, api.ErrOrder},
		{func(o *api.Office) { o.Next = append(o.Next, 4, 4) }, api.ErrTwice},
		{func(o *api.Office) { o.Next = append([]int{7}, o.Next...) }, api.ErrNotFound},
		{func(o *api.Office) { o.Next = append([]int{3}, o.Next...) }, api.ErrMismatch},
	}
	for set := 1; set < 1<<len(faults); set++ {
		l := example()
		want := api.OK
		for k := len(faults) - 1; k >= 0; k-- {
			if set>>k&1 == 1 {
				faults[k].change(&l[1])
				want = faults[k].e
			}
		}
		l[0].Next = nil
		if at, e := office.Check(l); at != 1 || e != want {
			t.Error(set, at, e, want)
		}
	}
}

// P6.1: the first office with a fault counts, and successors are the first offices with their IDs, even if these have faults themselves.
func TestCheckFirstOffice(t *testing.T) {
	for i, x := range []struct {
		l  []api.Office
		at int
		e  api.Errno
	}{
		{[]api.Office{one(1, 0, 5, 9), one(0, 0, 0)}, 0, api.ErrNotFound},
		{[]api.Office{one(1, 0, 5, 0), one(0, 5, 9)}, 1, api.ErrRange},
		{[]api.Office{one(1, 0, 5, -4), one(-4, 5, 2)}, 1, api.ErrRange},
		{[]api.Office{one(1, 0, 5, -4), one(-4, 6, 7)}, 0, api.ErrMismatch},
		{[]api.Office{one(1, 0, 5, 2), one(2, 5, 9), one(2, 6, 9)}, 2, api.ErrOrder},
		{[]api.Office{one(1, 0, 5, 2), one(2, 6, 9), one(2, 5, 9)}, 0, api.ErrMismatch},
		{[]api.Office{one(2, 0, 5), one(1, 0, 5, 9)}, 1, api.ErrOrder},
		{[]api.Office{one(1, 0, api.Forever, 2), one(2, api.Forever, api.Forever)}, 1, api.ErrRange},
		{[]api.Office{one(1, 0, 5), one(0, 0, 5), {}}, 1, api.ErrRange},
	} {
		if at, e := office.Check(x.l); at != x.at || e != x.e {
			t.Error(i, at, e)
		}
	}
}

// P6.1: the greatest numbers of offices and of successors, and more.
func TestCheckLimits(t *testing.T) {
	var l []api.Office
	for id := 1; id <= api.MaxOffices+1; id++ {
		l = append(l, one(id, 7, 9))
	}
	if i, e := office.Check(l[:api.MaxOffices]); i != -1 || e != api.OK {
		t.Error(i, e)
	}
	if i, e := office.Check(l); i != -1 || e != api.ErrTooLarge {
		t.Error(i, e)
	}
	l[0].ID = 0
	if i, e := office.Check(l); i != -1 || e != api.ErrTooLarge {
		t.Error(i, e)
	}
	l[0] = one(1, 0, 7, 2, 3, 4, 5, 6, 7, 8, 9)
	if i, e := office.Check(l[:20]); i != -1 || e != api.OK {
		t.Error(i, e)
	}
	l[0].Next = append(l[0].Next, 10)
	if i, e := office.Check(l[:20]); i != 0 || e != api.ErrRange {
		t.Error(i, e)
	}
	l[0].Next = make([]int, 1<<20)
	if i, e := office.Check(l[:20]); i != 0 || e != api.ErrRange {
		t.Error(i, e)
	}
	if i, e := office.Check([]api.Office{}); i != -1 || e != api.OK {
		t.Error(i, e)
	}
}

// P6.1: Find returns the first office with an ID, for any list.
func TestFind(t *testing.T) {
	l := []api.Office{one(7, 0, 5), one(-2, 9, 3), one(7, 1, 2), {}, one(math.MaxInt, 0, 0), one(0, 0, 0)}
	for _, x := range [][2]int{{7, 0}, {-2, 1}, {0, 3}, {math.MaxInt, 4}, {5, -1}, {math.MinInt, -1}} {
		if i := office.Find(l, x[0]); i != x[1] {
			t.Error(x, i)
		}
	}
	if i := office.Find(nil, 0); i != -1 {
		t.Error(i)
	}
	if i := office.Find(append(make([]api.Office, 5000), one(3, 0, 1)), 3); i != 5000 {
		t.Error(i)
	}
}

// P6.2: chains and heirs of all offices on all days at bounds and beside them.
func TestChainHeir(t *testing.T) {
	eachList(t, func(l []api.Office) {
		for _, day := range days() {
			for _, id := range ids(l) {
				want := heirOf(l, id, day)
				got, ok := office.Heir(l, id, day)
				if c := office.Chain(l, id, day); got != want || ok != (want != 0) || !slices.Equal(c, chainOf(l, id, day)) {
					t.Fatal(l, id, day, got, ok, c)
				}
			}
		}
	})
}

// P6.2, P6.3: the example of the chapter.
func TestExample(t *testing.T) {
	l := example()
	for _, x := range []struct {
		day, heir int
		chain     []int
	}{{99, 1, []int{1}}, {100, 2, []int{1, 2}}, {150, 2, []int{1, 2}}, {199, 2, []int{1, 2}}, {200, 4, []int{1, 2, 4}}, {250, 4, []int{1, 2, 4}}, {api.MaxDay, 4, []int{1, 2, 4}}} {
		heir, ok := office.Heir(l, 1, x.day)
		if c := office.Chain(l, 1, x.day); heir != x.heir || !ok || !slices.Equal(c, x.chain) {
			t.Error(x.day, heir, ok, c)
		}
	}
	if d := office.Duties(l, 4, 250); !slices.Equal(d, []int{1, 2, 4}) {
		t.Error(d)
	}
	if d := office.Duties(l, 3, 250); !slices.Equal(d, []int{3}) {
		t.Error(d)
	}
	if r := office.Reach(l, 1); !slices.Equal(r, []int{1, 2, 3, 4}) {
		t.Error(r)
	}
}

// P6.2: only the heir has the duties, even if another successor is in force while the heir is not.
func TestHeirEnds(t *testing.T) {
	l := []api.Office{one(1, 0, 10, 3, 2), one(2, 10, api.Forever), one(3, 10, 20)}
	if heir, ok := office.Heir(l, 1, 20); heir != 0 || ok {
		t.Error(heir, ok)
	}
	if c := office.Chain(l, 1, 20); !slices.Equal(c, []int{1, 3}) {
		t.Error(c)
	}
	if d := office.Duties(l, 2, 20); !slices.Equal(d, []int{2}) {
		t.Error(d)
	}
	if d := office.Duties(l, 3, 20); len(d) != 0 {
		t.Error(d)
	}
}

// P6.2, P6.3: the longest chain, and an office that is reached by very many ways.
func TestLongest(t *testing.T) {
	var chain []api.Office
	for i := range api.MaxOffices {
		o := one(i+1, i, i+1, i+2)
		if i == api.MaxOffices-1 {
			o.Next = nil
		}
		chain = append(chain, o)
	}
	if c := office.Chain(chain, 1, api.MaxDay); !slices.Equal(c, ids(chain)) {
		t.Error(c)
	}
	if d := office.Duties(chain, api.MaxOffices, api.MaxOffices-1); !slices.Equal(d, ids(chain)) {
		t.Error(d)
	}
	var dense []api.Office
	for i := range api.MaxOffices {
		o := one(i+1, i/8, i/8+1)
		for k := i/8*8 + 8; k < min(i/8*8+16, api.MaxOffices); k++ {
			o.Next = append(o.Next, k+1)
		}
		dense = append(dense, o)
	}
	for i := range dense {
		want := append([]int{i + 1}, ids(dense)[i/8*8+8:]...)
		if r := office.Reach(dense, i+1); !slices.Equal(r, want) {
			t.Error(i, r)
		}
	}
}

// faulty returns lists with a fault, which have an office 1 in force on day 5.
func faulty() [][]api.Office {
	return [][]api.Office{
		{one(1, 0, 9), one(1, 0, 9)},
		{one(1, 0, 9), one(0, 0, 9)},
		{one(1, 0, 9, 2)},
		{one(1, 0, 9, 1)},
		{{ID: 1, In: api.Span{From: 0, Until: 9}}},
		append([]api.Office{one(1, 0, 9)}, make([]api.Office, 40)...),
		{one(1, 0, 5, 2), one(2, 5, 9, 3), one(3, 9, 5, 1)},
	}
}

// P6.2, P6.3: nothing for a list with a fault, or without the office.
func TestNothing(t *testing.T) {
	missing := []int{0, -1, 5, math.MinInt, math.MaxInt}
	var cases []struct {
		l  []api.Office
		id int
	}
	for _, l := range faulty() {
		cases = append(cases, struct {
			l  []api.Office
			id int
		}{l, 1})
	}
	for _, id := range missing {
		for _, l := range [][]api.Office{nil, example()} {
			cases = append(cases, struct {
				l  []api.Office
				id int
			}{l, id})
		}
	}
	for i, x := range cases {
		heir, ok := office.Heir(x.l, x.id, 5)
		if heir != 0 || ok || len(office.Chain(x.l, x.id, 5)) != 0 || len(office.Reach(x.l, x.id)) != 0 || len(office.Duties(x.l, x.id, 5)) != 0 {
			t.Error(i, heir, ok)
		}
	}
}

// P6.3: Reach has an office if it is the first one, or a successor of one that it has, and no other one.
func TestReach(t *testing.T) {
	eachList(t, func(l []api.Office) {
		for _, id := range ids(l) {
			reached := map[int]bool{id: true}
			for range l {
				for _, o := range l {
					for _, next := range o.Next {
						reached[next] = reached[next] || reached[o.ID]
					}
				}
			}
			want := slices.DeleteFunc(ids(l), func(id int) bool { return !reached[id] })
			if r := office.Reach(l, id); !slices.Equal(r, want) {
				t.Fatal(l, id, r)
			}
		}
	})
}

// P6.3: Duties has the offices whose duties an office has.
func TestDuties(t *testing.T) {
	eachList(t, func(l []api.Office) {
		for _, day := range days() {
			for _, id := range ids(l) {
				want := slices.DeleteFunc(ids(l), func(other int) bool { return heirOf(l, other, day) != id })
				if d := office.Duties(l, id, day); !slices.Equal(d, want) {
					t.Fatal(l, id, day, d)
				}
			}
		}
	})
}

// P6.3: End changes the Until and the Next of one office, and nothing else.
func TestEnd(t *testing.T) {
	eachList(t, func(l []api.Office) {
		for i, o := range l {
			for _, day := range days() {
				for _, next := range [][]int{nil, {}, o.Next, {o.ID}, {99}} {
					want := clone(l)
					want[i].In.Until = day
					want[i].Next = next
					e := api.ErrRange
					if o.In.From < day && day <= o.In.Until {
						_, e = office.Check(want)
					}
					if e != api.OK {
						want = nil
					}
					given := clone(l)
					m, got := office.End(l, o.ID, day, next)
					if got != e || !same(m, want) || !same(l, given) {
						t.Fatal(l, o.ID, day, next, m, got, e)
					}
				}
			}
		}
	})
}

// P6.3: the errors of End in their order, and all successors that begin on the day.
func TestEndErrors(t *testing.T) {
	for i, l := range faulty() {
		for _, id := range []int{1, 77} {
			if m, e := office.End(l, id, 5, nil); len(m) != 0 || e != api.ErrArg {
				t.Error(i, m, e)
			}
		}
	}
	for i, x := range []struct {
		id, day int
		next    []int
		e       api.Errno
	}{
		{9, -1, []int{9, 9}, api.ErrNotFound}, {0, 50, nil, api.ErrNotFound}, {math.MinInt, 50, nil, api.ErrNotFound},
		{1, 0, []int{9, 9}, api.ErrRange}, {1, 101, []int{2}, api.ErrRange}, {1, math.MinInt, nil, api.ErrRange}, {1, math.MaxInt, nil, api.ErrRange},
		{2, 100, nil, api.ErrRange}, {2, 101, nil, api.OK}, {2, 200, nil, api.OK}, {2, 201, nil, api.ErrRange},
		{3, api.Forever, nil, api.OK}, {3, api.Forever + 1, nil, api.ErrRange}, {3, api.Forever, []int{4}, api.ErrMismatch},
		{1, 50, make([]int, 9), api.ErrRange}, {1, 50, make([]int, 8), api.ErrTwice}, {1, 50, []int{9, 2}, api.ErrNotFound}, {1, 50, []int{2}, api.ErrMismatch}, {1, 50, []int{1}, api.ErrMismatch},
		{1, 100, []int{3, 2}, api.OK}, {1, 100, nil, api.OK}, {3, 200, []int{4}, api.OK},
	} {
		m, e := office.End(example(), x.id, x.day, x.next)
		if e != x.e || (e != api.OK && len(m) != 0) {
			t.Error(i, m, e)
		}
		if e == api.OK && (m[x.id-1].In.Until != x.day || !slices.Equal(m[x.id-1].Next, x.next)) {
			t.Error(i, m)
		}
	}
}

// P6.3: arguments are not modified, and the result shares no memory with them.
func TestEndMemory(t *testing.T) {
	l := example()
	next := []int{4}
	m, e := office.End(l, 3, 200, next)
	if e != api.OK {
		t.Fatal(e)
	}
	for i := range m {
		m[i].Name = "changed"
		for k := range m[i].Next {
			m[i].Next[k] = 77
		}
		if cap(m[i].Next) > len(m[i].Next) {
			_ = append(m[i].Next, 78)
		}
	}
	if !reflect.DeepEqual(l, example()) || !slices.Equal(next, []int{4}) {
		t.Error(l, next)
	}
}

// P6.2, P6.3: the other functions do not modify the list, nor keep it.
func TestArguments(t *testing.T) {
	l := example()
	first := fmt.Sprint(office.Chain(l, 1, 250), office.Reach(l, 1), office.Duties(l, 4, 250))
	for _, result := range [][]int{office.Chain(l, 1, 250), office.Reach(l, 1), office.Duties(l, 4, 250)} {
		for i := range result {
			result[i] = 99
		}
	}
	if !reflect.DeepEqual(l, example()) {
		t.Error(l)
	}
	if again := fmt.Sprint(office.Chain(l, 1, 250), office.Reach(l, 1), office.Duties(l, 4, 250)); again != first {
		t.Error(again)
	}
}

// P6.4: duties are with one office at most, a chain visits no office twice, and has no gaps.
func TestConsequences(t *testing.T) {
	eachList(t, func(l []api.Office) {
		for _, day := range days() {
			owner := map[int]int{}
			for _, o := range l {
				duties := office.Duties(l, o.ID, day)
				if slices.Contains(duties, o.ID) != in(o, day) || (!in(o, day) && len(duties) != 0) {
					t.Fatal(l, o.ID, day, duties)
				}
				for _, id := range duties {
					if owner[id] != 0 {
						t.Fatal(l, day, id, "has two", owner[id], o.ID)
					}
					owner[id] = o.ID
				}
				c := office.Chain(l, o.ID, day)
				for i := 1; i < len(c); i++ {
					if get(l, c[i]).In.From != get(l, c[i-1]).In.Until || slices.Contains(c[:i], c[i]) {
						t.Fatal(l, o.ID, day, c)
					}
				}
			}
		}
	})
}

// P6.4: ending an office changes nobody's duties on the days before.
func TestEndKeepsThePast(t *testing.T) {
	eachList(t, func(l []api.Office) {
		for _, o := range l {
			for _, end := range []int{o.In.From + 1, (o.In.From + o.In.Until + 1) / 2, o.In.Until} {
				m, e := office.End(l, o.ID, end, nil)
				if e != api.OK {
					t.Fatal(l, o.ID, end, e)
				}
				for _, day := range days() {
					for _, id := range ids(l) {
						if day < end && !slices.Equal(office.Duties(l, id, day), office.Duties(m, id, day)) {
							t.Fatal(l, o.ID, end, id, day)
						}
					}
				}
			}
		}
	})
}
