package sample_test

import (
	"math"
	"math/rand"
	"reflect"
	"slices"
	"strconv"
	"strings"
	"testing"

	"archivum/api"
	"archivum/code"
	"archivum/digest"
	"archivum/file"
	"archivum/sample"
)

var always = api.Span{From: 0, Until: api.Forever}

// base returns a registry without files: the classes change on days 30 and 60, and have ended on day 110.
func base() api.Registry {
	r := api.Registry{
		Offices: []api.Office{{ID: 1, Name: "Mills", In: always}},
		Plans: []api.Plan{
			{Version: 1, In: api.Span{From: 0, Until: 30}},
			{Version: 2, In: api.Span{From: 30, Until: 60}, Moved: []api.Moved{{From: "2", To: "1.1"}}},
			{Version: 3, In: api.Span{From: 60, Until: 110}, Moved: []api.Moved{{From: "1.1", To: "3"}}},
		},
	}
	for i, codes := range [][]string{{"1", "1.1", "1.1.1", "1.2", "1.10", "2"}, {"1", "1.1", "1.2", "1.10", "3"}, {"1", "1.2", "1.10", "3"}} {
		for _, c := range codes {
			r.Plans[i].Classes = append(r.Plans[i].Classes, api.Class{Code: c, Title: "Class " + c})
		}
	}
	return r
}

func pick[T any](r *rand.Rand, l ...T) T { return l[r.Intn(len(l))] }

func someFile(r *rand.Rand, id int) api.File {
	opened := r.Intn(25)
	return api.File{
		ID:     id,
		Office: 1,
		Opened: opened,
		Closed: pick(r, opened, opened+r.Intn(10), opened+r.Intn(60), api.Forever),
		Class:  pick(r, "1", "1.1", "1.1.1", "1.2", "1.10", "2"),
		Title:  pick(r, "Mills", "mills", "Roads", "roads", "Aa", "aa", "Zoo", "zoo", "[A]", "@A", "`a", "{a", "1 A", "~"),
		Points: pick(r, 0, 1, 49, 50, 51, 99, 100, r.Intn(101)),
	}
}

// some returns a registry without a fault.
func some(r *rand.Rand) api.Registry {
	x := base()
	id := 0
	for range 1 + r.Intn(14) {
		id += 1 + r.Intn(3)
		x.Files = append(x.Files, someFile(r, id))
	}
	day := 0
	for _, i := range r.Perm(len(x.Files))[:r.Intn(len(x.Files))/2+r.Intn(2)] {
		day += r.Intn(50)
		if r.Intn(2) == 0 {
			x.Departures = append(x.Departures, api.Departure{File: x.Files[i].ID, Day: day})
		} else {
			x.Certificates = append(x.Certificates, api.Certificate{Number: 1, Day: day, Files: []int{x.Files[i].ID}})
		}
	}
	return x
}

// candidatesOf are the candidates of a class by their definition.
func candidatesOf(r api.Registry, class string, day int) []api.File {
	gone := map[int]bool{}
	for _, d := range r.Departures {
		gone[d.File] = gone[d.File] || d.Day <= day
	}
	for _, c := range r.Certificates {
		for _, id := range c.Files {
			gone[id] = gone[id] || c.Day <= day
		}
	}
	var l []api.File
	for _, f := range r.Files {
		own, e := file.Class(r.Plans, f, day)
		if day >= f.Closed && !gone[f.ID] && e == api.OK && (own == class || strings.HasPrefix(own, class+".")) {
			l = append(l, f)
		}
	}
	return l
}

// ids returns the IDs of files, sorted.
func ids(l []api.File) []int {
	var n []int
	for _, f := range l {
		n = append(n, f.ID)
	}
	slices.Sort(n)
	return n
}

func scoreOf(seed string, f api.File) string { return digest.Sum(seed + " " + strconv.Itoa(f.ID)) }

// least returns those n files for which fewer than n others have lesser scores.
func least(l []api.File, seed string, n int) []api.File {
	var drawn []api.File
	for _, f := range l {
		lesser := 0
		for _, g := range l {
			if scoreOf(seed, g) < scoreOf(seed, f) {
				lesser++
			}
		}
		if lesser < n {
			drawn = append(drawn, f)
		}
	}
	return drawn
}

// selected returns what an appraisal selects by its definition.
func selected(s api.Sample, l []api.File) []api.File {
	var chosen []api.File
	switch s.Method {
	case api.SampleDigest:
		return least(l, s.Seed, s.N)
	case api.SampleEvery:
		for i, f := range l {
			if i%s.N == s.Start {
				chosen = append(chosen, f)
			}
		}
	case api.SampleLetter:
		for _, f := range l {
			for _, c := range []byte(s.Seed) {
				if f.Title[0] == c || f.Title[0] == c-'A'+'a' {
					chosen = append(chosen, f)
				}
			}
		}
	case api.SamplePoints:
		for _, f := range l {
			if f.Points >= s.N {
				chosen = append(chosen, f)
			}
		}
	}
	return chosen
}

func days() []int { return []int{0, 4, 9, 29, 30, 40, 59, 60, 109, 110, api.MaxDay} }

// P13.1: the candidates of many registries, classes and days.
func TestCandidates(t *testing.T) {
	rnd := rand.New(rand.NewSource(1))
	found := 0
	for range 100 {
		r := some(rnd)
		for _, class := range []string{"1", "1.1", "1.1.1", "1.10", "2", "3", "4", "10"} {
			for _, day := range days() {
				want := ids(candidatesOf(r, class, day))
				found += len(want)
				if l, e := sample.Candidates(r, class, day); e != api.OK || !slices.Equal(l, want) {
					t.Fatalf("%+v %s %d: %v %v, not %v", r, class, day, l, e, want)
				}
			}
		}
	}
	if found < 4000 {
		t.Error(found)
	}
}

// P13.1: a file is a candidate from the day of closing to the day ahead of that on which it leaves, where it has a class.
func TestCandidatesDays(t *testing.T) {
	r := base()
	r.Files = []api.File{
		{ID: 2, Office: 1, Opened: 5, Closed: 10, Class: "1.1", Title: "Mills"},
		{ID: 3, Office: 1, Opened: 5, Closed: 10, Class: "2", Title: "Mills"},
		{ID: 4, Office: 1, Opened: 5, Closed: 10, Class: "1.1.1", Title: "Mills"},
		{ID: 5, Office: 1, Opened: 5, Closed: api.Forever, Class: "1.1", Title: "Mills"},
		{ID: 6, Office: 1, Opened: 5, Closed: 10, Class: "1.1", Title: "Mills"},
	}
	r.Certificates = []api.Certificate{{Number: 9, Day: 40, Files: []int{4}}}
	r.Departures = []api.Departure{{File: 6, Day: 20}}
	for i, x := range []struct {
		class string
		day   int
		want  []int
	}{
		{"1.1", 9, nil}, {"1.1", 10, []int{2, 4, 6}}, {"1.1", 19, []int{2, 4, 6}}, {"1.1", 20, []int{2, 4}},
		{"1.1", 29, []int{2, 4}}, {"1.1", 30, []int{2, 3, 4}}, {"1.1", 39, []int{2, 3, 4}}, {"1.1", 40, []int{2, 3}},
		{"1.1", 59, []int{2, 3}}, {"1.1", 60, nil}, {"3", 60, []int{2, 3}}, {"3", 109, []int{2, 3}}, {"3", 110, nil}, {"3", api.MaxDay, nil},
		{"2", 29, []int{3}}, {"2", 30, nil}, {"1", 30, []int{2, 3, 4}}, {"1.1.1", 29, []int{4}}, {"1.1.1", 30, nil}, {"11", 30, nil},
	} {
		if l, e := sample.Candidates(r, x.class, x.day); e != api.OK || !slices.Equal(l, x.want) {
			t.Error(i, l, e)
		}
	}
}

// P13.1: the errors of Candidates in their order.
func TestCandidatesErrors(t *testing.T) {
	good, bad := base(), base()
	bad.Plans[1].In.From++
	for i, x := range []struct {
		r     api.Registry
		class string
		day   int
		e     api.Errno
	}{
		{good, "1", 0, api.OK}, {good, "1", api.MaxDay, api.OK}, {good, "999.1.2.3.4.5", 5, api.OK}, {api.Registry{}, "1", 5, api.OK},
		{good, "1", -1, api.ErrRange}, {good, "1", api.MaxDay + 1, api.ErrRange}, {good, "1", math.MinInt, api.ErrRange}, {good, "1", math.MaxInt, api.ErrRange},
		{good, "", 5, api.ErrSyntax}, {good, "1.", 5, api.ErrSyntax}, {good, "01", 5, api.ErrSyntax}, {good, "1000", 5, api.ErrSyntax}, {good, "x", -1, api.ErrSyntax},
		{bad, "1", 5, api.ErrArg}, {bad, "x", 5, api.ErrArg}, {bad, "1", -1, api.ErrArg}, {bad, "x", -1, api.ErrArg},
		{api.Registry{Departures: []api.Departure{{File: 1}}}, "1", 5, api.ErrArg},
		// what only layer 14 demands does not matter
		{api.Registry{Clerks: make([]api.Clerk, 1), Approvals: make([]api.Approval, 1), Changed: -1}, "1", 5, api.OK},
	} {
		if l, e := sample.Candidates(x.r, x.class, x.day); e != x.e || len(l) > 0 {
			t.Error(i, l, e)
		}
	}
}

// good returns an appraisal of each method.
func good() [4]api.Sample {
	return [4]api.Sample{
		{ID: 5, Method: api.SampleEvery, N: 3, Start: 1, Class: "1"},
		{ID: 5, Method: api.SampleDigest, N: 3, Class: "1", Seed: "Draw 1"},
		{ID: 5, Method: api.SampleLetter, Class: "1", Seed: "AMZ"},
		{ID: 5, Method: api.SamplePoints, N: 50, Class: "1"},
	}
}

// P13.1: each fault alone, at its limits.
func TestCheckFaults(t *testing.T) {
	every, draw, letter, points := 0, 1, 2, 3
	all := []int{every, draw, letter, points}
	for i, x := range []struct {
		of     []int
		change func(s *api.Sample)
		e      api.Errno
	}{
		{all, func(s *api.Sample) {}, api.OK},
		{all, func(s *api.Sample) { s.ID = 0 }, api.ErrRange},
		{all, func(s *api.Sample) { s.ID = 1 }, api.OK},
		{all, func(s *api.Sample) { s.ID = api.MaxID }, api.OK},
		{all, func(s *api.Sample) { s.ID = api.MaxID + 1 }, api.ErrRange},
		{all, func(s *api.Sample) { s.Method = 0 }, api.ErrRange},
		{all, func(s *api.Sample) { s.Method = 5 }, api.ErrRange},
		{all, func(s *api.Sample) { s.Method = math.MinInt }, api.ErrRange},
		{all, func(s *api.Sample) { s.Method = math.MaxInt }, api.ErrRange},
		{all, func(s *api.Sample) { s.N = -1 }, api.ErrRange},
		{all, func(s *api.Sample) { s.N = math.MaxInt }, api.ErrRange},
		{all, func(s *api.Sample) { s.N = math.MinInt }, api.ErrRange},
		{all, func(s *api.Sample) { s.Start = -1 }, api.ErrRange},
		{all, func(s *api.Sample) { s.Start = math.MinInt }, api.ErrRange},
		{all, func(s *api.Sample) { s.Start = math.MaxInt }, api.ErrRange},
		{all, func(s *api.Sample) { s.Start = 0 }, api.OK},
		{[]int{draw, letter, points}, func(s *api.Sample) { s.Start = 1 }, api.ErrRange},
		{[]int{every}, func(s *api.Sample) { s.N, s.Start = 0, 0 }, api.ErrRange},
		{[]int{every}, func(s *api.Sample) { s.N, s.Start = 0, -1 }, api.ErrRange},
		{[]int{every}, func(s *api.Sample) { s.N, s.Start = 1, 0 }, api.OK},
		{[]int{every}, func(s *api.Sample) { s.N, s.Start = 1, 1 }, api.ErrRange},
		{[]int{every}, func(s *api.Sample) { s.Start = 2 }, api.OK},
		{[]int{every}, func(s *api.Sample) { s.Start = 3 }, api.ErrRange},
		{[]int{every}, func(s *api.Sample) { s.N, s.Start = 256, 255 }, api.OK},
		{[]int{every, draw}, func(s *api.Sample) { s.N = 256 }, api.OK},
		{[]int{every, draw}, func(s *api.Sample) { s.N = 257 }, api.ErrRange},
		{[]int{draw, letter, points}, func(s *api.Sample) { s.N = 0 }, api.OK},
		{[]int{letter}, func(s *api.Sample) { s.N = 1 }, api.ErrRange},
		{[]int{points}, func(s *api.Sample) { s.N = 100 }, api.OK},
		{[]int{points}, func(s *api.Sample) { s.N = 101 }, api.ErrRange},
		{all, func(s *api.Sample) { s.Class = "" }, api.ErrSyntax},
		{all, func(s *api.Sample) { s.Class = "1.0" }, api.ErrSyntax},
		{all, func(s *api.Sample) { s.Class = "999.999.1.1.1.999" }, api.OK},
		{all, func(s *api.Sample) { s.Class = "1.1.1.1.1.1.1" }, api.ErrSyntax},
		{[]int{every, points}, func(s *api.Sample) { s.Seed = "A" }, api.ErrArg},
		{[]int{every, points}, func(s *api.Sample) { s.Seed = " " }, api.ErrArg},
		{[]int{draw, letter}, func(s *api.Sample) { s.Seed = "" }, api.ErrArg},
		{[]int{draw, letter}, func(s *api.Sample) { s.Seed = " A" }, api.ErrArg},
		{[]int{draw, letter}, func(s *api.Sample) { s.Seed = "A" }, api.OK},
		{[]int{draw}, func(s *api.Sample) { s.Seed = strings.Repeat("z", 64) }, api.OK},
		{[]int{draw, letter}, func(s *api.Sample) { s.Seed = strings.Repeat("z", 65) }, api.ErrArg},
		{[]int{letter}, func(s *api.Sample) { s.Seed = "ABCDEFGHIJKLMNOPQRSTUVWXYZ" }, api.OK},
		{[]int{letter}, func(s *api.Sample) { s.Seed = "Z" }, api.OK},
		{[]int{letter}, func(s *api.Sample) { s.Seed = "AA" }, api.ErrArg},
		{[]int{letter}, func(s *api.Sample) { s.Seed = "BA" }, api.ErrArg},
		{[]int{letter}, func(s *api.Sample) { s.Seed = "@" }, api.ErrArg},
		{[]int{letter}, func(s *api.Sample) { s.Seed = "@A" }, api.ErrArg},
		{[]int{letter}, func(s *api.Sample) { s.Seed = "[" }, api.ErrArg},
		{[]int{letter}, func(s *api.Sample) { s.Seed = "Z[" }, api.ErrArg},
		{[]int{letter}, func(s *api.Sample) { s.Seed = "a" }, api.ErrArg},
		{[]int{letter}, func(s *api.Sample) { s.Seed = "A\x80" }, api.ErrArg},
	} {
		for _, k := range x.of {
			s := good()[k]
			x.change(&s)
			if e := sample.Check(s); e != x.e {
				t.Error(i, k, e)
			}
			if l, e := sample.Select(base(), s, 5); e != x.e || len(l) > 0 {
				t.Error(i, k, e)
			}
		}
	}
}

// P13.1, P13.2: of several faults the first one counts; those of the appraisal go ahead of those of the registry and the day.
func TestOrderOfFaults(t *testing.T) {
	for _, x := range good() {
		faults := []struct {
			change func(r *api.Registry, s *api.Sample, day *int)
			e      api.Errno
		}{
			{func(_ *api.Registry, s *api.Sample, _ *int) { s.ID = 0 }, api.ErrRange},
			{func(_ *api.Registry, s *api.Sample, _ *int) { s.Start = -1 }, api.ErrRange},
			{func(_ *api.Registry, s *api.Sample, _ *int) { s.Class = "x" }, api.ErrSyntax},
			{func(_ *api.Registry, s *api.Sample, _ *int) { s.Seed = " " }, api.ErrArg},
			{func(r *api.Registry, _ *api.Sample, _ *int) { r.Offices[0].ID = 0 }, api.ErrArg},
			{func(_ *api.Registry, _ *api.Sample, day *int) { *day = -1 }, api.ErrRange},
		}
		for set := range 1 << len(faults) {
			r, s, day := base(), x, 5
			want, checked := api.OK, api.OK
			for k := len(faults) - 1; k >= 0; k-- {
				if set>>k&1 == 0 {
					continue
				}
				faults[k].change(&r, &s, &day)
				want = faults[k].e
				if k < 4 {
					checked = faults[k].e
				}
			}
			if e := sample.Check(s); e != checked {
				t.Errorf("%d %b %v", x.Method, set, e)
			}
			if l, e := sample.Select(r, s, day); e != want || len(l) > 0 {
				t.Errorf("%d %b %v", x.Method, set, e)
			}
		}
	}
}

// someSample returns an appraisal without a fault.
func someSample(r *rand.Rand) api.Sample {
	s := api.Sample{ID: 1 + r.Intn(9), Method: 1 + r.Intn(4), Class: pick(r, "1", "1", "1.1", "1.10", "2", "3")}
	switch s.Method {
	case api.SampleEvery:
		s.N = 1 + r.Intn(5)
		s.Start = r.Intn(s.N)
	case api.SampleDigest:
		s.N, s.Seed = r.Intn(8), pick(r, "s", "Draw 1", "~")
	case api.SampleLetter:
		s.Seed = pick(r, "A", "M", "R", "Z", "AM", "AMRZ", "BCD", "ABCDEFGHIJKLMNOPQRSTUVWXYZ")
	case api.SamplePoints:
		s.N = pick(r, 0, 1, 50, 100, r.Intn(101))
	}
	return s
}

// P13.2: what many appraisals select.
func TestSelect(t *testing.T) {
	rnd := rand.New(rand.NewSource(2))
	var found, left [5]int
	for range 1500 {
		r := some(rnd)
		for range 6 {
			s, day := someSample(rnd), pick(rnd, days()...)
			candidates := candidatesOf(r, s.Class, day)
			want := ids(selected(s, candidates))
			found[s.Method] += len(want)
			left[s.Method] += len(candidates) - len(want)
			if l, e := sample.Select(r, s, day); e != api.OK || !slices.Equal(l, want) {
				t.Fatalf("%+v %+v %d: %v %v, not %v", r, s, day, l, e, want)
			}
		}
	}
	for m := range 4 {
		if found[m+1] < 300 || left[m+1] < 300 {
			t.Error(m+1, found[m+1], left[m+1])
		}
	}
}

// files returns a registry with the closed files 1 to n of the class 1.
func files(n int) api.Registry {
	r := base()
	for i := range n {
		r.Files = append(r.Files, api.File{ID: i + 1, Office: 1, Opened: 1, Closed: 2, Class: "1", Title: "Mills", Points: i % 101})
	}
	return r
}

// P13.2: the example of the chapter.
func TestSelectExample(t *testing.T) {
	r := files(9)
	for _, id := range []int{1, 2, 4, 6, 7} {
		r.Files[id-1].Closed = api.Forever
	}
	s := api.Sample{ID: 1, Method: api.SampleEvery, N: 2, Start: 1, Class: "1"}
	if l, e := sample.Select(r, s, 5); e != api.OK || !slices.Equal(l, []int{5, 9}) {
		t.Error(l, e)
	}
}

// P13.2: each title is taken by the letter with which it begins, and by no other one.
func TestSelectLetters(t *testing.T) {
	for c := byte('!'); c <= '~'; c++ {
		r := files(1)
		r.Files[0].Title = string(rune(c)) + "MNO"
		for letter := byte('A'); letter <= 'Z'; letter++ {
			s := api.Sample{ID: 1, Method: api.SampleLetter, Class: "1", Seed: string(rune(letter))}
			l, e := sample.Select(r, s, 5)
			if e != api.OK || (len(l) == 1) != (c == letter || c == letter+32) {
				t.Error(string(rune(c)), string(rune(letter)), l, e)
			}
		}
	}
}

// P13.2: as many files as there can be.
func TestSelectAll(t *testing.T) {
	r := files(256)
	for i, s := range []api.Sample{
		{ID: 1, Method: api.SampleEvery, N: 1, Class: "1"},
		{ID: 1, Method: api.SampleDigest, N: 256, Class: "1", Seed: "s"},
		{ID: 1, Method: api.SampleLetter, Class: "1", Seed: "M"},
		{ID: 1, Method: api.SamplePoints, Class: "1"},
	} {
		if l, e := sample.Select(r, s, 5); e != api.OK || !slices.Equal(l, ids(r.Files)) {
			t.Error(i, len(l), e)
		}
	}
	s := api.Sample{ID: 1, Method: api.SampleEvery, N: 256, Start: 255, Class: "1"}
	if l, e := sample.Select(r, s, 5); e != api.OK || !slices.Equal(l, []int{256}) {
		t.Error(l, e)
	}
	s = api.Sample{ID: 1, Method: api.SamplePoints, N: 100, Class: "1"}
	if l, e := sample.Select(r, s, 5); e != api.OK || !slices.Equal(l, []int{101, 202}) {
		t.Error(l, e)
	}
}

// P13.1: the score is a digest of the seed and the ID.
func TestScore(t *testing.T) {
	for i, x := range []struct {
		seed string
		file int
		text string
		e    api.Errno
	}{
		{"Draw 1", 7, "Draw 1 7", api.OK},
		{"1", 1, "1 1", api.OK},
		{"~", api.MaxID, "~ 1073741824", api.OK},
		{strings.Repeat("a", 64), 10, strings.Repeat("a", 64) + " 10", api.OK},
		{"", 7, "", api.ErrName}, {" a", 7, "", api.ErrName}, {"a  b", 7, "", api.ErrName}, {"\xe9", 7, "", api.ErrName}, {strings.Repeat("a", 65), 7, "", api.ErrName},
		{"", 0, "", api.ErrName},
		{"a", 0, "", api.ErrRange}, {"a", -1, "", api.ErrRange}, {"a", api.MaxID + 1, "", api.ErrRange}, {"a", math.MinInt, "", api.ErrRange}, {"a", math.MaxInt, "", api.ErrRange},
	} {
		want := ""
		if x.e == api.OK {
			want = digest.Sum(x.text)
		}
		if s, e := sample.Score(x.seed, x.file); e != x.e || s != want {
			t.Error(i, s, e)
		}
	}
}

// P13.3: a greater sample contains a lesser one, and has one more file, the one with the least score of all others.
func TestGreaterSamples(t *testing.T) {
	r := files(40)
	for _, seed := range []string{"a", "b", "Draw 2"} {
		var before []int
		greatest := ""
		for n := range 43 {
			l, e := sample.Select(r, api.Sample{ID: 1, Method: api.SampleDigest, N: n, Class: "1", Seed: seed}, 5)
			if e != api.OK || len(l) != min(n, 40) {
				t.Fatal(seed, n, l, e)
			}
			for _, id := range l {
				score, _ := sample.Score(seed, id)
				if !slices.Contains(before, id) && score < greatest {
					t.Error(seed, n, id)
				}
			}
			for _, id := range before {
				score, _ := sample.Score(seed, id)
				if !slices.Contains(l, id) {
					t.Error(seed, n, id)
				}
				greatest = max(greatest, score)
			}
			before = l
		}
	}
}

// P13.3: whether a file is selected does not depend on files with greater scores.
func TestSamplesDependOnLesserScores(t *testing.T) {
	rnd := rand.New(rand.NewSource(3))
	all := files(30)
	for range 60 {
		r := all
		r.Files = nil
		for _, f := range all.Files {
			if rnd.Intn(3) > 0 {
				r.Files = append(r.Files, f)
			}
		}
		n := rnd.Intn(20)
		l, e := sample.Select(r, api.Sample{ID: 1, Method: api.SampleDigest, N: n, Class: "1", Seed: "s"}, 5)
		if e != api.OK {
			t.Fatal(e)
		}
		if want := ids(least(r.Files, "s", n)); !slices.Equal(l, want) {
			t.Error(n, l, want)
		}
	}
}

// P13.1, P13.2: arguments are not modified, and results are newly allocated.
func TestMemory(t *testing.T) {
	rnd := rand.New(rand.NewSource(4))
	for range 50 {
		seed := rnd.Int63()
		r, same := some(rand.New(rand.NewSource(seed))), some(rand.New(rand.NewSource(seed)))
		for _, s := range good() {
			l, _ := sample.Select(r, s, 40)
			kept := slices.Clone(l)
			m, _ := sample.Select(r, s, 40)
			for i := range m {
				m[i] = -1
			}
			if !slices.Equal(l, kept) {
				t.Error(l, kept)
			}
		}
		sample.Candidates(r, "1", 40)
		sample.Strata(r, "1", "s", 1, 40)
		if !reflect.DeepEqual(r, same) {
			t.Errorf("%+v", r)
		}
	}
	counts := []int{3, 1, 2}
	q, _ := sample.Quotas(3, counts)
	q[0] = 99
	if !slices.Equal(counts, []int{3, 1, 2}) {
		t.Error(counts)
	}
}

// compareClasses compares the classes of two files on a day.
func compareClasses(r api.Registry, day int) func(f, g api.File) int {
	return func(f, g api.File) int {
		a, _ := file.Class(r.Plans, f, day)
		b, _ := file.Class(r.Plans, g, day)
		n, _ := code.Compare(a, b)
		return n
	}
}
