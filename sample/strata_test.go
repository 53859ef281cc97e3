package sample_test

import (
	"math"
	"math/big"
	"math/rand"
	"slices"
	"strconv"
	"testing"

	"archivum/api"
	"archivum/sample"
)

// quotasOf are the quotas by their definition, with exact fractions.
func quotasOf(n int, counts []int) []int {
	sum := 0
	for _, c := range counts {
		sum += c
	}
	quotas := make([]int, len(counts))
	if sum == 0 {
		return quotas
	}
	rests := make([]*big.Rat, len(counts))
	left := n
	for i, c := range counts {
		share := new(big.Rat).SetFrac(new(big.Int).Mul(big.NewInt(int64(n)), big.NewInt(int64(c))), big.NewInt(int64(sum)))
		whole := new(big.Int).Quo(share.Num(), share.Denom())
		quotas[i] = int(whole.Int64())
		rests[i] = share.Sub(share, new(big.Rat).SetInt(whole))
		left -= quotas[i]
	}
	for range left {
		greatest := 0
		for i := range rests {
			if rests[i].Cmp(rests[greatest]) > 0 {
				greatest = i
			}
		}
		quotas[greatest]++
		rests[greatest] = big.NewRat(-1, 1)
	}
	return quotas
}

// compareQuotas compares the quotas with those of the definition, and checks their properties.
func compareQuotas(t *testing.T, n int, counts []int) {
	t.Helper()
	q, e := sample.Quotas(n, counts)
	if e != api.OK || !slices.Equal(q, quotasOf(n, counts)) {
		t.Fatal(n, counts, q, e, quotasOf(n, counts))
	}
	sum, all := 0, 0
	for _, c := range counts {
		all += c
	}
	for i, c := range counts {
		sum += q[i]
		if q[i] > c || q[i] < 0 || all > 0 && q[i] != n*c/all && q[i] != (n*c+all-1)/all {
			t.Fatal(n, counts, q)
		}
	}
	if sum != n {
		t.Fatal(n, counts, q)
	}
}

// P13.2, P13.3: the quotas of all numbers for all lists of a few counts.
func TestQuotas(t *testing.T) {
	for set := range 6 * 6 * 6 * 6 {
		counts := []int{set % 6, set / 6 % 6, set / 36 % 6, set / 216 % 6}
		for k := range 5 {
			sum := 0
			for _, c := range counts[:k] {
				sum += c
			}
			for n := range sum + 1 {
				compareQuotas(t, n, counts[:k])
			}
			if q, e := sample.Quotas(sum+1, counts[:k]); e != api.ErrRange || len(q) > 0 {
				t.Fatal(counts[:k], q, e)
			}
		}
	}
}

// P13.2: the example of the chapter.
func TestQuotasExample(t *testing.T) {
	if q, e := sample.Quotas(5, []int{3, 3, 4}); e != api.OK || !slices.Equal(q, []int{2, 1, 2}) {
		t.Error(q, e)
	}
}

// P13.2, P13.3: great counts, and many of them.
func TestQuotasGreat(t *testing.T) {
	rnd := rand.New(rand.NewSource(1))
	for range 100 {
		counts := make([]int, pick(rnd, 1, 2, 127, 128))
		sum := 0
		for i := range counts {
			counts[i] = pick(rnd, 0, 1, 1<<20-1, 1<<20, rnd.Intn(1<<20))
			sum += counts[i]
		}
		for _, n := range []int{0, 1, sum / 2, max(sum-1, 0), sum, rnd.Intn(sum + 1)} {
			compareQuotas(t, min(n, sum), counts)
		}
	}
	counts := slices.Repeat([]int{1 << 20}, 128)
	compareQuotas(t, 1<<27, counts)
	compareQuotas(t, 1<<27-1, counts)
}

// P13.2: the errors of Quotas in their order.
func TestQuotasErrors(t *testing.T) {
	for i, x := range []struct {
		n      int
		counts []int
		e      api.Errno
	}{
		{0, nil, api.OK}, {0, make([]int, 128), api.OK},
		{0, make([]int, 129), api.ErrTooLarge}, {-1, slices.Repeat([]int{-1}, 129), api.ErrTooLarge},
		{1, nil, api.ErrRange}, {-1, nil, api.ErrRange}, {-1, []int{1}, api.ErrRange}, {2, []int{1}, api.ErrRange}, {1, []int{0, 0}, api.ErrRange},
		{0, []int{-1}, api.ErrRange}, {0, []int{1, -1}, api.ErrRange}, {-1, []int{-1}, api.ErrRange}, {1, []int{-1, 2}, api.ErrRange}, {1, []int{2, -1}, api.ErrRange},
		{1, []int{1 << 20}, api.OK}, {1, []int{1<<20 + 1}, api.ErrRange}, {1, []int{1, 1<<20 + 1}, api.ErrRange},
		{1, []int{math.MaxInt}, api.ErrRange}, {0, []int{math.MinInt}, api.ErrRange}, {1, []int{math.MaxInt, math.MaxInt}, api.ErrRange},
		{math.MaxInt, []int{1}, api.ErrRange}, {math.MinInt, []int{1}, api.ErrRange},
	} {
		q, e := sample.Quotas(x.n, x.counts)
		if e != x.e || e != api.OK && len(q) > 0 || e == api.OK && len(q) != len(x.counts) {
			t.Error(i, q, e)
		}
	}
}

// strataOf returns what is selected by strata by the definition.
func strataOf(r api.Registry, class, seed string, n, day int) []int {
	l := candidatesOf(r, class, day)
	compare := compareClasses(r, day)
	slices.SortStableFunc(l, compare)
	var strata [][]api.File
	for i, f := range l {
		if i == 0 || compare(l[i-1], f) != 0 {
			strata = append(strata, nil)
		}
		last := len(strata) - 1
		strata[last] = append(strata[last], f)
	}
	var counts []int
	for _, s := range strata {
		counts = append(counts, len(s))
	}
	var drawn []api.File
	for i, q := range quotasOf(n, counts) {
		drawn = append(drawn, least(strata[i], seed, q)...)
	}
	return ids(drawn)
}

// P13.2, P13.3: what is selected by strata from many registries: just as many files as wanted.
func TestStrata(t *testing.T) {
	rnd := rand.New(rand.NewSource(5))
	found := 0
	for range 400 {
		r := some(rnd)
		class, seed, day := pick(rnd, "1", "1", "1", "1.1", "2", "3"), pick(rnd, "s", "Draw 1"), pick(rnd, days()...)
		most := len(candidatesOf(r, class, day))
		for n := range most + 1 {
			found++
			l, e := sample.Strata(r, class, seed, n, day)
			if want := strataOf(r, class, seed, n, day); e != api.OK || len(l) != n || !slices.Equal(l, want) {
				t.Fatalf("%+v %s %s %d %d: %v %v, not %v", r, class, seed, n, day, l, e, want)
			}
		}
		for _, n := range []int{-1, most + 1, math.MinInt, math.MaxInt} {
			if l, e := sample.Strata(r, class, seed, n, day); e != api.ErrRange || len(l) > 0 {
				t.Fatal(n, l, e)
			}
		}
	}
	if found < 500 {
		t.Error(found)
	}
}

// P13.2: of equal remainders the first class counts, by the order of codes and not by that of strings or files.
func TestStrataOrder(t *testing.T) {
	r := base()
	for i, class := range []string{"1.10", "1.2", "1.1"} {
		r.Files = append(r.Files, api.File{ID: i + 1, Office: 1, Opened: 1, Closed: 2, Class: class, Title: "Mills"})
	}
	for n, want := range [][]int{nil, {3}, {2, 3}, {1, 2, 3}} {
		if l, e := sample.Strata(r, "1", "s", n, 5); e != api.OK || !slices.Equal(l, want) {
			t.Error(n, l, e)
		}
	}
}

// P13.2: as many classes and files as there can be.
func TestStrataLimits(t *testing.T) {
	r := api.Registry{Offices: base().Offices, Plans: []api.Plan{{Version: 1, In: always, Classes: []api.Class{{Code: "1", Title: "Mills"}}}}}
	for i := range 127 {
		r.Plans[0].Classes = append(r.Plans[0].Classes, api.Class{Code: "1." + strconv.Itoa(i+1), Title: "Mills"})
	}
	for i := range 256 {
		r.Files = append(r.Files, api.File{ID: i + 1, Office: 1, Opened: 1, Closed: 2, Class: r.Plans[0].Classes[i%128].Code, Title: "Mills"})
	}
	for _, n := range []int{1, 127, 129, 256} {
		if l, e := sample.Strata(r, "1", "s", n, 5); e != api.OK || len(l) != n || !slices.Equal(l, strataOf(r, "1", "s", n, 5)) {
			t.Error(n, l, e)
		}
	}
}

// P13.2: the errors of Strata in their order.
func TestStrataErrors(t *testing.T) {
	faults := []struct {
		change func(r *api.Registry, class, seed *string, n, day *int)
		e      api.Errno
	}{
		{func(_ *api.Registry, _, seed *string, _, _ *int) { *seed = "" }, api.ErrName},
		{func(r *api.Registry, _, _ *string, _, _ *int) { r.Plans[0].Version = 2 }, api.ErrArg},
		{func(_ *api.Registry, class, _ *string, _, _ *int) { *class = "1.x" }, api.ErrSyntax},
		{func(_ *api.Registry, _, _ *string, _, day *int) { *day = api.MaxDay + 1 }, api.ErrRange},
		{func(_ *api.Registry, _, _ *string, n, _ *int) { *n = 4 }, api.ErrRange},
	}
	for set := range 1 << len(faults) {
		r, class, seed, n, day := files(3), "1", "s", 3, 5
		want := api.OK
		for k := len(faults) - 1; k >= 0; k-- {
			if set>>k&1 == 1 {
				faults[k].change(&r, &class, &seed, &n, &day)
				want = faults[k].e
			}
		}
		if l, e := sample.Strata(r, class, seed, n, day); e != want || e != api.OK && len(l) > 0 || e == api.OK && len(l) != 3 {
			t.Errorf("%b %v %v", set, l, e)
		}
	}
}
