package dating_test

import (
	"math"
	"slices"
	"testing"

	"archivum/api"
	"archivum/dating"
	"archivum/day"
)

var invalid = []api.Dating{
	{First: -1, Last: 5},
	{First: -1, Last: -1},
	{First: 6, Last: 5},
	{First: 1, Last: 0},
	{First: 0, Last: api.MaxDay + 1},
	{First: api.MaxDay + 1, Last: api.MaxDay + 1},
	{First: api.MaxDay, Last: api.MaxDay - 1},
	{First: math.MinInt, Last: math.MaxInt},
	{First: math.MaxInt, Last: math.MinInt},
	{First: 0, Last: math.MaxInt},
	{First: math.MinInt, Last: 0},
}

// valid are some at both ends of the days, and in the middle.
var valid = []api.Dating{
	{First: 0, Last: 0},
	{First: 0, Last: 1},
	{First: 0, Last: api.MaxDay},
	{First: 59, Last: 59},
	{First: 150000, Last: 150365},
	{First: 1, Last: api.MaxDay},
	{First: 0, Last: api.MaxDay - 1},
	{First: api.MaxDay, Last: api.MaxDay},
	{First: api.MaxDay - 1, Last: api.MaxDay},
}

// small returns all datings of n days.
func small(n int) []api.Dating {
	var l []api.Dating
	for first := range n {
		for last := first; last < n; last++ {
			l = append(l, api.Dating{First: first, Last: last})
		}
	}
	return l
}

// relation counts for how many choices of days something holds.
func relation(a, b api.Dating, holds func(d, e int) bool) int {
	yes, no := 0, 0
	for d := a.First; d <= a.Last; d++ {
		for e := b.First; e <= b.Last; e++ {
			if holds(d, e) {
				yes++
			} else {
				no++
			}
		}
	}
	switch {
	case no == 0:
		return api.Certain
	case yes == 0:
		return api.Impossible
	}
	return api.Possible
}

func less(d, e int) bool  { return d < e }
func equal(d, e int) bool { return d == e }

func before(t *testing.T, a, b api.Dating) int {
	t.Helper()
	n, e := dating.Before(a, b)
	if e != api.OK {
		t.Error("Before", a, b, e)
	}
	return n
}

func same(t *testing.T, a, b api.Dating) int {
	t.Helper()
	n, e := dating.Same(a, b)
	if e != api.OK {
		t.Error("Same", a, b, e)
	}
	return n
}

// P3.1
func TestCheck(t *testing.T) {
	for _, x := range valid {
		if e := dating.Check(x); e != api.OK {
			t.Error(x, e)
		}
	}
	for _, x := range invalid {
		if e := dating.Check(x); e != api.ErrArg {
			t.Error(x, e)
		}
	}
}

// P3.1 and P3.4: what is certain holds for each choice of days, what is impossible for none.
func TestRelationsOfAllChoices(t *testing.T) {
	for _, a := range small(7) {
		for _, b := range small(7) {
			if n := before(t, a, b); n != relation(a, b, less) {
				t.Error("Before", a, b, n)
			}
			if n := same(t, a, b); n != relation(a, b, equal) {
				t.Error("Same", a, b, n)
			}
		}
	}
}

// P3.1: the relations at both ends of the days.
func TestRelationsFar(t *testing.T) {
	for i, x := range []struct {
		a, b         api.Dating
		before, same int
	}{
		{api.Dating{First: 0, Last: api.MaxDay}, api.Dating{First: 0, Last: api.MaxDay}, api.Possible, api.Possible},
		{api.Dating{First: 0, Last: 0}, api.Dating{First: api.MaxDay, Last: api.MaxDay}, api.Certain, api.Impossible},
		{api.Dating{First: api.MaxDay, Last: api.MaxDay}, api.Dating{First: 0, Last: 0}, api.Impossible, api.Impossible},
		{api.Dating{First: 0, Last: 0}, api.Dating{First: 0, Last: api.MaxDay}, api.Possible, api.Possible},
		{api.Dating{First: api.MaxDay, Last: api.MaxDay}, api.Dating{First: 0, Last: api.MaxDay}, api.Impossible, api.Possible},
		{api.Dating{First: 0, Last: api.MaxDay - 1}, api.Dating{First: api.MaxDay, Last: api.MaxDay}, api.Certain, api.Impossible},
		{api.Dating{First: 0, Last: 0}, api.Dating{First: 0, Last: 0}, api.Impossible, api.Certain},
		{api.Dating{First: api.MaxDay, Last: api.MaxDay}, api.Dating{First: api.MaxDay, Last: api.MaxDay}, api.Impossible, api.Certain},
	} {
		if n, m := before(t, x.a, x.b), same(t, x.a, x.b); n != x.before || m != x.same {
			t.Error(i, n, m)
		}
	}
}

// P3.1: the year 1923, as the document compares it.
func TestRelationsExample(t *testing.T) {
	year := parsed(t, "1923")
	for text, want := range map[string]int{"1924": api.Certain, "1923-06": api.Possible, "1923-01-01": api.Impossible} {
		if n := before(t, year, parsed(t, text)); n != want {
			t.Error(text, n)
		}
	}
}

// P3.1
func TestRelationsInvalid(t *testing.T) {
	for _, x := range invalid {
		for _, y := range slices.Concat(valid, invalid) {
			for _, pair := range [][2]api.Dating{{x, y}, {y, x}} {
				if n, e := dating.Before(pair[0], pair[1]); n != 0 || e != api.ErrArg {
					t.Error("Before", pair, n, e)
				}
				if n, e := dating.Same(pair[0], pair[1]); n != 0 || e != api.ErrArg {
					t.Error("Same", pair, n, e)
				}
			}
		}
	}
}

// P3.4: a dating in another one keeps what is certain and what is impossible.
func TestContainedRelations(t *testing.T) {
	for _, wide := range small(6) {
		for _, narrow := range small(6) {
			if narrow.First < wide.First || narrow.Last > wide.Last {
				continue
			}
			for _, b := range small(6) {
				for _, pair := range [][2]int{
					{before(t, wide, b), before(t, narrow, b)},
					{before(t, b, wide), before(t, b, narrow)},
					{same(t, wide, b), same(t, narrow, b)},
					{same(t, b, wide), same(t, b, narrow)},
				} {
					if pair[0] != api.Possible && pair[1] != pair[0] {
						t.Error(wide, narrow, b, pair)
					}
				}
			}
		}
	}
}

// P3.2 and P3.4: both ends are shifted, and each day in between leads to one in the result.
func TestYears(t *testing.T) {
	for first := 0; first <= api.MaxDay; first += 4999 {
		for _, length := range []int{0, 1, 40, 400} {
			x := api.Dating{First: first, Last: min(first+length, api.MaxDay)}
			for _, n := range []int{0, 1, 3, 4, 100, 200} {
				got, e := dating.Years(x, n)
				if e != api.OK || dating.Check(got) != api.OK {
					t.Fatal(x, n, got, e)
				}
				for d := x.First; d <= x.Last; d++ {
					later, e := day.Years(d, n)
					if e != api.OK || later < got.First || later > got.Last {
						t.Fatal(x, n, got, d, later, e)
					}
					if d == x.First && later != got.First || d == x.Last && later != got.Last {
						t.Fatal(x, n, got, d, later)
					}
				}
			}
		}
	}
}

// P3.2: 29 February, and the end of the days.
func TestYearsExamples(t *testing.T) {
	for _, x := range []struct {
		from string
		n    int
		want string
	}{
		{"1923", 10, "1933"},
		{"1924-02", 1, "1925-02"},
		{"1923-02", 1, "1924-02/1924-02-28"},
		{"1924-02-28/1924-02-29", 1, "1925-02-28"},
		{"1924-02-29", 4, "1928-02-29"},
		{"unknown", 0, "unknown"},
		{"unknown", 200, "after 1799"},
		{"4400", 70, "4470"},
		{"4400", 200, "4470-11-25"},
		{"4470-11", 0, "4470-11"},
		{"4470-11", 1, "4470-11-25"},
	} {
		got, e := dating.Years(parsed(t, x.from), x.n)
		if text, f := dating.Format(got); text != x.want || e != api.OK || f != api.OK {
			t.Error(x, text, e, f)
		}
	}
}

// P3.2: an invalid dating counts before a number of years out of range.
func TestYearsInvalid(t *testing.T) {
	wrong := []int{-1, 201, math.MinInt, math.MaxInt}
	for _, n := range wrong {
		for _, x := range valid {
			if got, e := dating.Years(x, n); got != (api.Dating{}) || e != api.ErrRange {
				t.Error(x, n, got, e)
			}
		}
	}
	for _, n := range append(wrong, 0, 1, 200) {
		for _, x := range invalid {
			if got, e := dating.Years(x, n); got != (api.Dating{}) || e != api.ErrArg {
				t.Error(x, n, got, e)
			}
		}
	}
}

// P3.2: the days in common, for all datings of a few days.
func TestMeet(t *testing.T) {
	for _, a := range small(7) {
		for _, b := range small(7) {
			x, ok := dating.Meet(a, b)
			if !ok && x != (api.Dating{}) {
				t.Error(a, b, x)
			}
			for d := range 7 {
				common := a.First <= d && d <= a.Last && b.First <= d && d <= b.Last
				if common != (ok && x.First <= d && d <= x.Last) {
					t.Error(a, b, x, ok, d)
				}
			}
		}
	}
	if x, ok := dating.Meet(api.Dating{First: 5, Last: api.MaxDay}, api.Dating{First: 0, Last: api.MaxDay}); !ok || x != (api.Dating{First: 5, Last: api.MaxDay}) {
		t.Error(x, ok)
	}
}

// P3.2
func TestMeetInvalid(t *testing.T) {
	for _, x := range invalid {
		for _, y := range slices.Concat(valid, invalid) {
			for _, pair := range [][2]api.Dating{{x, y}, {y, x}} {
				if got, ok := dating.Meet(pair[0], pair[1]); ok || got != (api.Dating{}) {
					t.Error(pair, got, ok)
				}
			}
		}
	}
}

// P3.2: the hull of all triples of datings of a few days.
func TestHull(t *testing.T) {
	for _, a := range small(5) {
		for _, b := range small(5) {
			for _, c := range small(5) {
				want := api.Dating{First: min(a.First, b.First, c.First), Last: max(a.Last, b.Last, c.Last)}
				if got, e := dating.Hull([]api.Dating{a, b, c}); got != want || e != api.OK {
					t.Fatal(a, b, c, got, e)
				}
			}
		}
	}
	for _, x := range valid {
		if got, e := dating.Hull([]api.Dating{x}); got != x || e != api.OK {
			t.Error(x, got, e)
		}
	}
}

// P3.2: as many datings as there may be, and one more.
func TestHullLimit(t *testing.T) {
	l := make([]api.Dating, api.MaxList)
	for i := range l {
		l[i] = api.Dating{First: 2000 - i, Last: 3000 + i}
	}
	kept := slices.Clone(l)
	if got, e := dating.Hull(l); got != (api.Dating{First: 977, Last: 4023}) || e != api.OK {
		t.Error(got, e)
	}
	if !slices.Equal(l, kept) {
		t.Error("the argument was changed")
	}
	if got, e := dating.Hull(append(l, api.Dating{})); got != (api.Dating{}) || e != api.ErrTooLarge {
		t.Error(got, e)
	}
}

// P3.2: the errors, in their order.
func TestHullInvalid(t *testing.T) {
	for _, l := range [][]api.Dating{nil, {}} {
		if got, e := dating.Hull(l); got != (api.Dating{}) || e != api.ErrEmpty {
			t.Error(got, e)
		}
	}
	tooMany := slices.Repeat([]api.Dating{{First: 2, Last: 1}}, api.MaxList+1)
	if got, e := dating.Hull(tooMany); got != (api.Dating{}) || e != api.ErrTooLarge {
		t.Error(got, e)
	}
	for _, x := range invalid {
		for at := range len(valid) + 1 {
			l := slices.Insert(slices.Clone(valid), at, x)
			if got, e := dating.Hull(l); got != (api.Dating{}) || e != api.ErrArg {
				t.Error(l, got, e)
			}
		}
	}
}
