package transfer_test

import (
	"math"
	"math/rand"
	"reflect"
	"regexp"
	"slices"
	"strings"
	"testing"

	"archivum/api"
	"archivum/transfer"
)

// digestOf returns 32 bytes that are different for different numbers.
func digestOf(n int) string {
	b := make([]byte, 32)
	for i := range b {
		b[i] = byte(n*7 + i*i*n + i)
	}
	return string(b)
}

// example returns the list of the chapter's example.
func example() api.TransferList {
	return api.TransferList{ID: 3, Office: 8, Day: 100, Items: []api.Listed{
		{Number: 1, File: 70, Title: "Letters", Dating: api.Dating{First: 5, Last: 9}, Pages: 30, Digest: digestOf(1)},
		{Number: 4, File: 71, Title: "Maps", Dating: api.Dating{First: 2, Last: 6}, Pages: 20, Digest: digestOf(2)},
	}}
}

// long returns a right list with so many items, each one of as many pages as it has as a number.
func long(n int) api.TransferList {
	l := api.TransferList{ID: 1, Office: 1}
	for i := range n {
		l.Items = append(l.Items, api.Listed{Number: i + 1, File: 2*n - i, Title: "Acts", Dating: api.Dating{First: i, Last: i}, Pages: i + 1, Digest: digestOf(i)})
	}
	return l
}

// greatest returns the right list with the longest text.
func greatest() api.TransferList {
	l := api.TransferList{ID: api.MaxID, Office: api.MaxID, Day: api.MaxDay}
	for i := range api.MaxItems {
		l.Items = append(l.Items, api.Listed{
			Number: 9999 - api.MaxItems + 1 + i, File: api.MaxID - i, Title: strings.Repeat("~", 64),
			Dating: api.Dating{First: api.MaxDay, Last: api.MaxDay}, Pages: 100000, Digest: strings.Repeat("\xff", 32),
		})
	}
	return l
}

func pick[T any](r *rand.Rand, l ...T) T { return l[r.Intn(len(l))] }

// some returns a list that is right, but for a fault at times.
func some(r *rand.Rand) api.TransferList {
	l := api.TransferList{ID: 1 + r.Intn(9), Office: 1 + r.Intn(9), Day: r.Intn(9)}
	number := 0
	for range 1 + r.Intn(6) {
		number += 1 + r.Intn(3)
		first := r.Intn(30)
		l.Items = append(l.Items, api.Listed{
			Number: number, File: 100*number + r.Intn(2), Title: pick(r, "Letters", "Letters, A to K", "x", "item 1"),
			Dating: api.Dating{First: first, Last: first + r.Intn(3)}, Pages: 1 + r.Intn(40), Digest: digestOf(r.Intn(3)),
		})
	}
	if r.Intn(4) == 0 {
		faults := changes()
		faults[r.Intn(len(faults))].change(&l)
	}
	return l
}

// change is a change of a list with at least one item, and the fault that it has then, if any.
type change struct {
	change func(l *api.TransferList)
	// item says that the fault is one of the last item
	item bool
	e    api.Errno
}

func last(l *api.TransferList) *api.Listed { return &l.Items[len(l.Items)-1] }

// changes returns changes in the order of their faults.
func changes() []change {
	return []change{
		{func(l *api.TransferList) { l.ID = 0 }, false, api.ErrRange},
		{func(l *api.TransferList) { l.ID = -1 }, false, api.ErrRange},
		{func(l *api.TransferList) { l.ID = api.MaxID + 1 }, false, api.ErrRange},
		{func(l *api.TransferList) { l.ID = math.MinInt }, false, api.ErrRange},
		{func(l *api.TransferList) { l.Office = 0 }, false, api.ErrRange},
		{func(l *api.TransferList) { l.Office = api.MaxID + 1 }, false, api.ErrRange},
		{func(l *api.TransferList) { l.Office = math.MaxInt }, false, api.ErrRange},
		{func(l *api.TransferList) { l.Day = -1 }, false, api.ErrRange},
		{func(l *api.TransferList) { l.Day = api.MaxDay + 1 }, false, api.ErrRange},
		{func(l *api.TransferList) { l.Day = math.MaxInt }, false, api.ErrRange},
		{func(l *api.TransferList) {
			for len(l.Items) <= api.MaxItems {
				l.Items = append(l.Items, l.Items[0])
			}
		}, false, api.ErrTooLarge},
		{func(l *api.TransferList) { last(l).Number = 0 }, true, api.ErrRange},
		{func(l *api.TransferList) { last(l).Number = -3 }, true, api.ErrRange},
		{func(l *api.TransferList) { last(l).Number = 10000 }, true, api.ErrRange},
		{func(l *api.TransferList) { last(l).Number = math.MaxInt }, true, api.ErrRange},
		{func(l *api.TransferList) { last(l).File = 0 }, true, api.ErrRange},
		{func(l *api.TransferList) { last(l).File = api.MaxID + 1 }, true, api.ErrRange},
		{func(l *api.TransferList) { last(l).File = math.MinInt }, true, api.ErrRange},
		{func(l *api.TransferList) { last(l).Pages = 0 }, true, api.ErrRange},
		{func(l *api.TransferList) { last(l).Pages = 100001 }, true, api.ErrRange},
		{func(l *api.TransferList) { last(l).Pages = math.MinInt }, true, api.ErrRange},
		{func(l *api.TransferList) { last(l).Dating.First = -1 }, true, api.ErrRange},
		{func(l *api.TransferList) { last(l).Dating.First = last(l).Dating.Last + 1 }, true, api.ErrRange},
		{func(l *api.TransferList) { last(l).Dating.Last = api.Forever }, true, api.ErrRange},
		{func(l *api.TransferList) { last(l).Dating = api.Dating{First: api.Forever, Last: api.Forever} }, true, api.ErrRange},
		{func(l *api.TransferList) { last(l).Dating = api.Dating{First: math.MinInt, Last: math.MaxInt} }, true, api.ErrRange},
		{func(l *api.TransferList) { last(l).Title = "" }, true, api.ErrName},
		{func(l *api.TransferList) { last(l).Title = " x" }, true, api.ErrName},
		{func(l *api.TransferList) { last(l).Title = "x " }, true, api.ErrName},
		{func(l *api.TransferList) { last(l).Title = "x  y" }, true, api.ErrName},
		{func(l *api.TransferList) { last(l).Title = "x\n" }, true, api.ErrName},
		{func(l *api.TransferList) { last(l).Title = "x\x7f" }, true, api.ErrName},
		{func(l *api.TransferList) { last(l).Title = strings.Repeat("x", 65) }, true, api.ErrName},
		{func(l *api.TransferList) { last(l).Digest = "" }, true, api.ErrArg},
		{func(l *api.TransferList) { last(l).Digest = digestOf(1)[1:] }, true, api.ErrArg},
		{func(l *api.TransferList) { last(l).Digest = digestOf(1) + "x" }, true, api.ErrArg},
	}
}

// name is the form of names that the definition describes.
var name = regexp.MustCompile(`^[!-~]( ?[!-~])*$`)

// faultOf is the first fault of a list by its definition.
func faultOf(l api.TransferList) (int, api.Errno) {
	switch {
	case l.ID < 1 || l.ID > 1<<30 || l.Office < 1 || l.Office > 1<<30 || l.Day < 0 || l.Day > 1<<20-1:
		return -1, api.ErrRange
	case len(l.Items) == 0:
		return -1, api.ErrEmpty
	case len(l.Items) > 128:
		return -1, api.ErrTooLarge
	}
	for i, x := range l.Items {
		again := false
		for _, y := range l.Items[:i] {
			again = again || x.File == y.File
		}
		d := x.Dating
		switch {
		case x.Number < 1 || x.Number > 9999 || x.File < 1 || x.File > 1<<30 || x.Pages < 1 || x.Pages > 100000 || d.First < 0 || d.First > d.Last || d.Last > 1<<20-1:
			return i, api.ErrRange
		case len(x.Title) > 64 || !name.MatchString(x.Title):
			return i, api.ErrName
		case len(x.Digest) != 32:
			return i, api.ErrArg
		case i > 0 && x.Number <= l.Items[i-1].Number:
			return i, api.ErrOrder
		case again:
			return i, api.ErrTwice
		}
	}
	return -1, api.OK
}

func isRight(l api.TransferList) bool {
	_, e := faultOf(l)
	return e == api.OK
}

// P16.1: lists at their limits, and each fault alone.
func TestCheck(t *testing.T) {
	for i, l := range []api.TransferList{example(), long(1), long(128), greatest()} {
		if k, e := transfer.Check(l); k != -1 || e != api.OK {
			t.Error(i, k, e)
		}
		for j, x := range changes() {
			l := l
			l.Items = slices.Clone(l.Items)
			x.change(&l)
			want := -1
			if x.item {
				want = len(l.Items) - 1
			}
			if k, e := transfer.Check(l); k != want || e != x.e {
				t.Error(i, j, k, e)
			}
		}
		l.Items = nil
		if k, e := transfer.Check(l); k != -1 || e != api.ErrEmpty {
			t.Error(i, k, e)
		}
	}
	if k, e := transfer.Check(long(129)); k != -1 || e != api.ErrTooLarge {
		t.Error(k, e)
	}
	if k, e := transfer.Check(api.TransferList{}); k != -1 || e != api.ErrRange {
		t.Error(k, e)
	}
}

// P16.1: the order of numbers, and files that are there twice.
func TestCheckOrder(t *testing.T) {
	for i, x := range []struct {
		numbers, files [3]int
		index          int
		e              api.Errno
	}{
		{[3]int{1, 2, 9999}, [3]int{3, 2, 1}, -1, api.OK},
		{[3]int{1, 1, 3}, [3]int{3, 2, 1}, 1, api.ErrOrder},
		{[3]int{1, 3, 3}, [3]int{3, 2, 1}, 2, api.ErrOrder},
		{[3]int{1, 3, 2}, [3]int{3, 2, 1}, 2, api.ErrOrder},
		{[3]int{2, 1, 3}, [3]int{3, 2, 1}, 1, api.ErrOrder},
		{[3]int{1, 2, 3}, [3]int{3, 3, 1}, 1, api.ErrTwice},
		{[3]int{1, 2, 3}, [3]int{3, 2, 3}, 2, api.ErrTwice},
		{[3]int{1, 2, 3}, [3]int{3, 2, 2}, 2, api.ErrTwice},
		{[3]int{1, 1, 3}, [3]int{3, 3, 1}, 1, api.ErrOrder},
		{[3]int{1, 2, 2}, [3]int{3, 3, 1}, 1, api.ErrTwice},
	} {
		l := long(3)
		for k := range l.Items {
			l.Items[k].Number, l.Items[k].File = x.numbers[k], x.files[k]
		}
		if k, e := transfer.Check(l); k != x.index || e != x.e {
			t.Error(i, k, e)
		}
	}
}

// P16.1: of two faults the first one counts, of the list and of its items.
func TestCheckOrderOfFaults(t *testing.T) {
	for i, x := range changes() {
		for j, y := range changes() {
			l := long(5)
			if j%2 == 0 {
				// the last item has two more faults
				last(&l).Number, last(&l).File = 4, l.Items[0].File
			}
			x.change(&l)
			y.change(&l)
			want, fault := faultOf(l)
			if k, e := transfer.Check(l); k != want || e != fault {
				t.Error(i, j, k, e)
			}
		}
	}
}

// P16.1: Check for many lists.
func TestCheckMany(t *testing.T) {
	r := rand.New(rand.NewSource(1))
	wrong := 0
	for range 20000 {
		l := some(r)
		for range r.Intn(2) * r.Intn(4) {
			x := &l.Items[r.Intn(len(l.Items))]
			*pick(r, &x.Number, &x.File, &x.Pages, &x.Dating.First, &x.Dating.Last) = pick(r, 0, 1, 2, 3, 100, 10000)
		}
		want, fault := faultOf(l)
		if k, e := transfer.Check(l); k != want || e != fault {
			t.Fatalf("%+v %v %v", l, k, e)
		}
		if fault != api.OK {
			wrong++
		}
	}
	if wrong < 3000 || wrong > 17000 {
		t.Error(wrong)
	}
}

// P16.1: Find, for any list.
func TestFind(t *testing.T) {
	l := example()
	l.Items = append(l.Items, api.Listed{Number: -5, Pages: -1}, api.Listed{Number: 4, Title: "again"}, api.Listed{}, api.Listed{Number: math.MaxInt, File: 3})
	l.ID = 0
	for number, want := range map[int]int{1: 0, 4: 1, -5: 2, 0: 4, math.MaxInt: 5} {
		if x, ok := transfer.Find(l, number); x != l.Items[want] || !ok {
			t.Error(number, x, ok)
		}
	}
	for _, number := range []int{2, 3, 5, -1, math.MinInt} {
		if x, ok := transfer.Find(l, number); x != (api.Listed{}) || ok {
			t.Error(number, x, ok)
		}
	}
	if x, ok := transfer.Find(api.TransferList{}, 0); x != (api.Listed{}) || ok {
		t.Error(x, ok)
	}
}

// P16.2: Total of the example, of the greatest list, and of many ones.
func TestTotal(t *testing.T) {
	if pages, d, e := transfer.Total(example()); pages != 50 || d != (api.Dating{First: 2, Last: 9}) || e != api.OK {
		t.Error(pages, d, e)
	}
	if pages, d, e := transfer.Total(greatest()); pages != 12800000 || d != (api.Dating{First: api.MaxDay, Last: api.MaxDay}) || e != api.OK {
		t.Error(pages, d, e)
	}
	r := rand.New(rand.NewSource(2))
	for range 5000 {
		l := some(r)
		sum, firsts, lasts := 0, []int{}, []int{}
		for _, x := range l.Items {
			sum += x.Pages
			firsts, lasts = append(firsts, x.Dating.First), append(lasts, x.Dating.Last)
		}
		all, fault := api.Dating{First: slices.Min(firsts), Last: slices.Max(lasts)}, api.OK
		if !isRight(l) {
			sum, all, fault = 0, api.Dating{}, api.ErrArg
		}
		if pages, d, e := transfer.Total(l); pages != sum || d != all || e != fault {
			t.Fatalf("%+v %v %v %v", l, pages, d, e)
		}
	}
	if pages, d, e := transfer.Total(api.TransferList{ID: 1, Office: 1}); pages != 0 || d != (api.Dating{}) || e != api.ErrArg {
		t.Error(pages, d, e)
	}
}

// differing returns the numbers at which two lists differ, by the definition.
func differing(a, b api.TransferList) []int {
	var numbers []int
	for n := 1; n <= 9999; n++ {
		x, okX := transfer.Find(a, n)
		y, okY := transfer.Find(b, n)
		if okX != okY || x != y {
			numbers = append(numbers, n)
		}
	}
	return numbers
}

// P16.2, P16.5: lists that differ in one field, and lists with other heads.
func TestDiffer(t *testing.T) {
	for i, x := range []struct {
		change func(l *api.TransferList)
		want   []int
	}{
		{func(l *api.TransferList) {}, nil},
		{func(l *api.TransferList) { l.ID, l.Office, l.Day = 9, 10, 11 }, nil},
		{func(l *api.TransferList) { l.Items[0].File = 5 }, []int{1}},
		{func(l *api.TransferList) { l.Items[1].Title = "Plans" }, []int{4}},
		{func(l *api.TransferList) { l.Items[1].Dating.First = 3 }, []int{4}},
		{func(l *api.TransferList) { l.Items[0].Dating.Last = 10 }, []int{1}},
		{func(l *api.TransferList) { l.Items[0].Pages, l.Items[1].Pages = 20, 30 }, []int{1, 4}},
		{func(l *api.TransferList) { l.Items[1].Digest = digestOf(7) }, []int{4}},
		{func(l *api.TransferList) { l.Items[1].Number = 3 }, []int{3, 4}},
		{func(l *api.TransferList) { l.Items = l.Items[:1] }, []int{4}},
		{func(l *api.TransferList) { l.Items = l.Items[1:] }, []int{1}},
		{func(l *api.TransferList) { l.Items[0], l.Items = l.Items[1], l.Items[:1] }, []int{1}},
	} {
		l := example()
		x.change(&l)
		if got, e := transfer.Differ(example(), l); e != api.OK || !slices.Equal(got, x.want) {
			t.Error(i, got, e)
		}
		if got, e := transfer.Differ(l, example()); e != api.OK || !slices.Equal(got, x.want) {
			t.Error(i, got, e)
		}
	}
	if got, e := transfer.Differ(greatest(), long(128)); e != api.OK || len(got) != 256 || !slices.IsSorted(got) {
		t.Error(got, e)
	}
}

// P16.2, P16.5: many pairs of lists; they differ nowhere exactly if their items are equal.
func TestDifferMany(t *testing.T) {
	r := rand.New(rand.NewSource(3))
	equal, wrong := 0, 0
	for range 1500 {
		a := some(r)
		b := some(r)
		if r.Intn(2) == 0 {
			b = a
			b.Items = slices.Clone(a.Items)
			b.Items[r.Intn(len(b.Items))].Pages += r.Intn(2)
		}
		want, fault := differing(a, b), api.OK
		if !isRight(a) || !isRight(b) {
			want, fault = nil, api.ErrArg
			wrong++
		} else if (len(want) == 0) != slices.Equal(a.Items, b.Items) {
			t.Fatal(a, b)
		} else if len(want) == 0 {
			equal++
		}
		if got, e := transfer.Differ(a, b); e != fault || !slices.Equal(got, want) {
			t.Fatalf("%+v %+v %v %v", a, b, got, e)
		}
	}
	if equal < 100 || wrong < 100 {
		t.Error(equal, wrong)
	}
}

// fewest returns the least number of parts that follow one another and have at most so many pages.
func fewest(l []api.Listed, pages int) int {
	least := make([]int, len(l)+1)
	for i := range l {
		least[i+1] = math.MaxInt
		sum := 0
		for k := i; k >= 0; k-- {
			if sum += l[k].Pages; sum <= pages {
				least[i+1] = min(least[i+1], least[k]+1)
			}
		}
	}
	return least[len(l)]
}

// sumOf returns how many pages some items have.
func sumOf(l []api.Listed) int {
	sum := 0
	for _, x := range l {
		sum += x.Pages
	}
	return sum
}

// P16.3: the example, and lists at their limits.
func TestDivide(t *testing.T) {
	for pages, want := range map[int][]int{30: {1, 1}, 40: {1, 1}, 49: {1, 1}, 50: {2}, 51: {2}, 100000: {2}} {
		if got, e := transfer.Divide(example(), pages); e != api.OK || !slices.Equal(got, want) {
			t.Error(pages, got, e)
		}
	}
	if got, e := transfer.Divide(greatest(), 100000); e != api.OK || len(got) != 128 || slices.Max(got) != 1 {
		t.Error(got, e)
	}
	if got, e := transfer.Divide(long(128), 8256); e != api.OK || !slices.Equal(got, []int{128}) {
		t.Error(got, e)
	}
	if got, e := transfer.Divide(long(128), 8255); e != api.OK || !slices.Equal(got, []int{127, 1}) {
		t.Error(got, e)
	}
	if got, e := transfer.Divide(long(1), 1); e != api.OK || !slices.Equal(got, []int{1}) {
		t.Error(got, e)
	}
}

// P16.3, P16.5: many divisions: each part is full, and none have fewer parts.
func TestDivideMany(t *testing.T) {
	r := rand.New(rand.NewSource(4))
	for range 10000 {
		l := some(r)
		pages := 1 + r.Intn(90)
		got, e := transfer.Divide(l, pages)
		switch {
		case !isRight(l):
			if e != api.ErrArg || len(got) > 0 {
				t.Fatal(l, pages, got, e)
			}
			continue
		case slices.ContainsFunc(l.Items, func(x api.Listed) bool { return x.Pages > pages }):
			if e != api.ErrLimit || len(got) > 0 {
				t.Fatal(l, pages, got, e)
			}
			continue
		}
		rest := l.Items
		for _, n := range got {
			if n < 1 || n > len(rest) || sumOf(rest[:n]) > pages || n < len(rest) && sumOf(rest[:n+1]) <= pages {
				t.Fatal(l, pages, got)
			}
			rest = rest[n:]
		}
		if e != api.OK || len(rest) > 0 || len(got) != fewest(l.Items, pages) {
			t.Fatal(l, pages, got, e)
		}
	}
}

// P16.3: the errors of Divide, in their order.
func TestDivideErrors(t *testing.T) {
	for i, x := range []struct {
		change func(l *api.TransferList)
		pages  int
		e      api.Errno
	}{
		{func(l *api.TransferList) {}, 29, api.ErrLimit},
		{func(l *api.TransferList) {}, 1, api.ErrLimit},
		{func(l *api.TransferList) {}, 0, api.ErrRange},
		{func(l *api.TransferList) {}, -1, api.ErrRange},
		{func(l *api.TransferList) {}, 100001, api.ErrRange},
		{func(l *api.TransferList) {}, math.MaxInt, api.ErrRange},
		{func(l *api.TransferList) {}, math.MinInt, api.ErrRange},
		{func(l *api.TransferList) { l.Day = -1 }, 0, api.ErrArg},
		{func(l *api.TransferList) { l.Items = nil }, 5, api.ErrArg},
		{func(l *api.TransferList) { l.Items[1].Pages = 0 }, 29, api.ErrArg},
		{func(l *api.TransferList) { l.Items[0].Pages, l.Items[1].Pages = 5, 40 }, 39, api.ErrLimit},
	} {
		l := example()
		x.change(&l)
		if got, e := transfer.Divide(l, x.pages); len(got) > 0 || e != x.e {
			t.Error(i, got, e)
		}
	}
}

// P16.1 to P16.4: arguments are not changed, and results share no memory with them.
func TestMemory(t *testing.T) {
	l := greatest()
	text, _ := transfer.Print(l)
	first, _, _ := transfer.Parse(text)
	second, _, _ := transfer.Parse(text)
	first.Items[0].Pages = 7
	parts, _ := transfer.Divide(l, 100000)
	numbers, _ := transfer.Differ(l, long(5))
	for _, results := range [][]int{parts, numbers} {
		for i := range results {
			results[i] = -1
		}
	}
	if again, _ := transfer.Divide(l, 100000); slices.Min(again) != 1 {
		t.Error(again)
	}
	if again, _ := transfer.Differ(l, long(5)); slices.Min(again) != 1 {
		t.Error(again)
	}
	_, _, _ = transfer.Total(l)
	_, _ = transfer.Find(l, 9999)
	if !reflect.DeepEqual(l, greatest()) || !reflect.DeepEqual(second, l) {
		t.Error("an argument is changed")
	}
}
