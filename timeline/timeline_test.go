package timeline_test

import (
	"fmt"
	"math"
	"slices"
	"testing"

	"archivum/api"
	"archivum/timeline"
)

// none is the value of a day without a value in the lists of values that these tests compare with.
const none = -1

// shifts are where a few days lie, for the tests of all timelines of these: at both ends and in the middle.
var shifts = []int{0, 1000, api.Forever - 5}

func piece(from, until, value int) api.Piece {
	return api.Piece{In: api.Span{From: from, Until: until}, Value: value}
}

// alternating returns n pieces of one day each that touch one another.
func alternating(n int) []api.Piece {
	l := make([]api.Piece, n)
	for i := range l {
		l[i] = piece(i, i+1, i%2)
	}
	return l
}

// spaced returns n pieces of one day each, with two days from one to the next.
func spaced(n, start, value int) []api.Piece {
	l := make([]api.Piece, n)
	for i := range l {
		l[i] = piece(start+2*i, start+2*i+1, value)
	}
	return l
}

// timelineOf returns the timeline in order with the values of some days from one on.
func timelineOf(values []int, start int) []api.Piece {
	var l []api.Piece
	for i, v := range values {
		switch {
		case v == none:
		case i > 0 && values[i-1] == v:
			l[len(l)-1].In.Until++
		default:
			l = append(l, piece(start+i, start+i+1, v))
		}
	}
	return l
}

// eachValues calls see with all lists of n values: none and those from 0 to 1.
func eachValues(n int, see func(values []int)) {
	count := 1
	for range n {
		count *= 3
	}
	for i := range count {
		values := make([]int, n)
		for at := range n {
			values[at] = i%3 - 1
			i /= 3
		}
		see(values)
	}
}

// eachSpan calls see with all spans of n days.
func eachSpan(n int, see func(from, until int)) {
	for from := range n {
		for until := from + 1; until <= n; until++ {
			see(from, until)
		}
	}
}

// checkList checks a list and that it is in order.
func checkList(t *testing.T, what string, got, want []api.Piece, e api.Errno) {
	t.Helper()
	if e != api.OK || !slices.Equal(got, want) || timeline.Check(got) != api.OK {
		t.Fatal(what, got, want, e)
	}
}

var ordered = [][]api.Piece{
	nil,
	{},
	{piece(0, 1, 0)},
	{piece(0, api.Forever, 7)},
	{piece(api.MaxDay, api.Forever, -7)},
	{piece(0, 5, 1), piece(5, 6, 2), piece(6, api.Forever, 1)},
	{piece(0, 5, 1), piece(6, 7, 1), piece(8, 9, 1)},
	{piece(3, 5, math.MinInt), piece(5, 9, math.MaxInt)},
	alternating(api.MaxList),
}

var faulty = []struct {
	l []api.Piece
	e api.Errno
}{
	{[]api.Piece{piece(5, 5, 1)}, api.ErrRange},
	{[]api.Piece{piece(6, 5, 1)}, api.ErrRange},
	{[]api.Piece{piece(-1, 5, 1)}, api.ErrRange},
	{[]api.Piece{piece(-5, -1, 1)}, api.ErrRange},
	{[]api.Piece{piece(0, api.Forever+1, 1)}, api.ErrRange},
	{[]api.Piece{piece(api.Forever, api.Forever+1, 1)}, api.ErrRange},
	{[]api.Piece{piece(math.MinInt, math.MaxInt, 1)}, api.ErrRange},
	{[]api.Piece{piece(math.MaxInt, math.MinInt, 1)}, api.ErrRange},
	{[]api.Piece{{}}, api.ErrRange},
	{[]api.Piece{piece(0, 5, 1), piece(7, 7, 1)}, api.ErrRange},
	{[]api.Piece{piece(0, 5, 1), piece(5, 6, 1)}, api.ErrOrder},
	{[]api.Piece{piece(0, 5, 1), piece(4, 6, 2)}, api.ErrOrder},
	{[]api.Piece{piece(0, 5, 1), piece(0, 5, 1)}, api.ErrOrder},
	{[]api.Piece{piece(5, 6, 1), piece(0, 5, 2)}, api.ErrOrder},
	{[]api.Piece{piece(0, 9, 1), piece(2, 3, 1)}, api.ErrOrder},
	{[]api.Piece{piece(0, 2, 1), piece(4, 5, 1), piece(3, 4, 2)}, api.ErrOrder},
	// one piece with both faults, and two pieces with one each
	{[]api.Piece{piece(0, 5, 1), piece(4, 4, 2)}, api.ErrRange},
	{[]api.Piece{piece(0, 5, 1), piece(-3, 4, 2)}, api.ErrRange},
	{[]api.Piece{piece(0, 5, 1), piece(4, 6, 2), piece(8, 8, 1)}, api.ErrOrder},
	{[]api.Piece{piece(0, 5, 1), piece(8, 8, 1), piece(4, 6, 2)}, api.ErrRange},
	// too many pieces, in order and not
	{alternating(api.MaxList + 1), api.ErrTooLarge},
	{make([]api.Piece, api.MaxList+1), api.ErrTooLarge},
	{slices.Repeat([]api.Piece{piece(0, 5, 1)}, api.MaxList+1), api.ErrTooLarge},
}

var noSpans = []api.Span{
	{},
	{From: 5, Until: 5},
	{From: 6, Until: 5},
	{From: -1, Until: 5},
	{From: -2, Until: -1},
	{From: 0, Until: api.Forever + 1},
	{From: api.Forever, Until: api.Forever},
	{From: api.Forever, Until: api.Forever + 1},
	{From: math.MinInt, Until: math.MaxInt},
	{From: math.MaxInt, Until: math.MinInt},
}

// P4.1
func TestCheck(t *testing.T) {
	for i, l := range ordered {
		if e := timeline.Check(l); e != api.OK {
			t.Error(i, e)
		}
	}
	for i, x := range faulty {
		if e := timeline.Check(x.l); e != x.e {
			t.Error(i, e)
		}
	}
}

// P4.1: all timelines of a few days.
func TestAt(t *testing.T) {
	eachValues(5, func(values []int) {
		for _, start := range shifts {
			l := timelineOf(values, start)
			if timeline.Check(l) != api.OK {
				t.Fatal(l)
			}
			for i := -1; i <= 5; i++ {
				v, ok := timeline.At(l, start+i)
				if i < 0 || i == 5 || values[i] == none {
					if ok || v != 0 {
						t.Fatal(l, start+i, v, ok)
					}
				} else if !ok || v != values[i] {
					t.Fatal(l, start+i, v, ok)
				}
			}
		}
	})
}

// P4.1: lists that are no timelines, and integers that are no days.
func TestAtAnyList(t *testing.T) {
	l := []api.Piece{piece(9, 3, 7), piece(5, 9, 1), piece(0, 20, 2), piece(5, 6, 3), piece(-9, -2, 4), piece(math.MinInt, -20, 5), piece(api.Forever, math.MaxInt, 6), piece(30, 40, 0)}
	for _, x := range []struct {
		day, value int
		ok         bool
	}{
		{5, 1, true}, {8, 1, true}, {4, 2, true}, {9, 2, true}, {0, 2, true}, {19, 2, true}, {20, 0, false}, {-1, 0, false}, {-2, 0, false}, {-3, 4, true}, {-9, 4, true}, {-10, 0, false},
		{-20, 0, false}, {-21, 5, true}, {math.MinInt, 5, true}, {api.MaxDay, 0, false}, {api.Forever, 6, true}, {math.MaxInt - 1, 6, true}, {math.MaxInt, 0, false},
		{29, 0, false}, {30, 0, true}, {39, 0, true}, {40, 0, false},
	} {
		if v, ok := timeline.At(l, x.day); v != x.value || ok != x.ok {
			t.Error(x, v, ok)
		}
	}
	long := append(make([]api.Piece, 2*api.MaxList), piece(3, 4, 5))
	if v, ok := timeline.At(long, 3); v != 5 || !ok {
		t.Error(v, ok)
	}
	if v, ok := timeline.At(nil, 3); v != 0 || ok {
		t.Error(v, ok)
	}
}

// P4.2 and P4.5: all timelines, spans and values of a few days. The other days are as before.
func TestSetAndClear(t *testing.T) {
	eachValues(5, func(values []int) {
		eachSpan(5, func(from, until int) {
			for _, start := range shifts {
				l := timelineOf(values, start)
				in := api.Span{From: start + from, Until: start + until}
				for value := none; value <= 2; value++ {
					changed := slices.Clone(values)
					for i := from; i < until; i++ {
						changed[i] = value
					}
					what := fmt.Sprint(values, in, value)
					if value == none {
						got, e := timeline.Clear(l, in)
						checkList(t, what, got, timelineOf(changed, start), e)
					} else {
						got, e := timeline.Set(l, in, value)
						checkList(t, what, got, timelineOf(changed, start), e)
					}
				}
				if !slices.Equal(l, timelineOf(values, start)) {
					t.Fatal("the argument was changed", values, in)
				}
			}
		})
	})
}

// P4.2: the document's timeline, and spans as long as they can be.
func TestSetExamples(t *testing.T) {
	l := []api.Piece{piece(10, 20, 1)}
	got, e := timeline.Set(l, api.Span{From: 15, Until: 25}, 2)
	checkList(t, "2", got, []api.Piece{piece(10, 15, 1), piece(15, 25, 2)}, e)
	got, e = timeline.Set(l, api.Span{From: 15, Until: 25}, 1)
	checkList(t, "1", got, []api.Piece{piece(10, 25, 1)}, e)
	got, e = timeline.Clear(l, api.Span{From: 12, Until: 14})
	checkList(t, "clear", got, []api.Piece{piece(10, 12, 1), piece(14, 20, 1)}, e)
	got, e = timeline.Set(nil, api.Span{From: 0, Until: api.Forever}, math.MinInt)
	checkList(t, "none", got, []api.Piece{piece(0, api.Forever, math.MinInt)}, e)
	got, e = timeline.Set(alternating(api.MaxList), api.Span{From: 0, Until: api.Forever}, -5)
	checkList(t, "all", got, []api.Piece{piece(0, api.Forever, -5)}, e)
	got, e = timeline.Clear(alternating(api.MaxList), api.Span{From: 0, Until: api.Forever})
	checkList(t, "clear all", got, nil, e)
	got, e = timeline.Clear(nil, api.Span{From: 3, Until: 4})
	checkList(t, "clear nothing", got, nil, e)
}

// P4.5: the second value of a span counts.
func TestSetTwice(t *testing.T) {
	eachValues(5, func(values []int) {
		eachSpan(5, func(from, until int) {
			l, in := timelineOf(values, 0), api.Span{From: from, Until: until}
			once, e := timeline.Set(l, in, 1)
			if e != api.OK {
				t.Fatal(l, in, e)
			}
			twice, e := timeline.Set(once, in, 0)
			direct, f := timeline.Set(l, in, 0)
			if f != api.OK {
				t.Fatal(l, in, f)
			}
			checkList(t, fmt.Sprint(l, in), twice, direct, e)
		})
	})
}

// P4.2: results of just as many pieces as there may be, and of more.
func TestSetLimit(t *testing.T) {
	full := spaced(api.MaxList, 10, 1)
	last := full[api.MaxList-1].In.Until
	for _, x := range []struct {
		l     []api.Piece
		in    api.Span
		value int
		n     int // pieces of the result; 0 for too many
	}{
		{full, api.Span{From: 0, Until: 5}, 1, 0},
		{full, api.Span{From: last + 1, Until: api.Forever}, 1, 0},
		{full, api.Span{From: 11, Until: 12}, 2, 0},
		{full, api.Span{From: 0, Until: 10}, 2, 0},
		{full, api.Span{From: 0, Until: 10}, 1, 1024},
		{full, api.Span{From: 11, Until: 12}, 1, 1023},
		{full, api.Span{From: 10, Until: 11}, 2, 1024},
		{full, api.Span{From: last, Until: api.Forever}, 1, 1024},
		{full[1:], api.Span{From: 0, Until: 5}, 1, 1024},
		{[]api.Piece{piece(0, 100, 1)}, api.Span{From: 50, Until: 60}, 2, 3},
	} {
		got, e := timeline.Set(x.l, x.in, x.value)
		if x.n == 0 && (e != api.ErrTooLarge || len(got) != 0) || x.n != 0 && (e != api.OK || len(got) != x.n || timeline.Check(got) != api.OK) {
			t.Error(x.in, x.value, len(got), e)
		}
	}
	long := append(spaced(api.MaxList-2, 10, 1), piece(10000, 10010, 1))
	got, e := timeline.Set(long, api.Span{From: 10002, Until: 10003}, 2)
	if e != api.ErrTooLarge || len(got) != 0 {
		t.Error(len(got), e)
	}
	got, e = timeline.Set(long[1:], api.Span{From: 10002, Until: 10003}, 2)
	if e != api.OK || len(got) != api.MaxList {
		t.Error(len(got), e)
	}
}

// P4.2: a piece is divided by clearing.
func TestClearLimit(t *testing.T) {
	full := append(spaced(api.MaxList-1, 10, 1), piece(10000, 10010, 1))
	middle := api.Span{From: 10002, Until: 10003}
	if got, e := timeline.Clear(full, middle); e != api.ErrTooLarge || len(got) != 0 {
		t.Error(len(got), e)
	}
	if got, e := timeline.Clear(full[1:], middle); e != api.OK || len(got) != api.MaxList {
		t.Error(len(got), e)
	}
	for _, in := range []api.Span{{From: 10000, Until: 10003}, {From: 10008, Until: 10010}, {From: 11, Until: 12}, {From: 0, Until: 10}} {
		if got, e := timeline.Clear(full, in); e != api.OK || len(got) != api.MaxList {
			t.Error(in, len(got), e)
		}
	}
	if got, e := timeline.Clear(full, api.Span{From: 12, Until: 10002}); e != api.OK || len(got) != 2 {
		t.Error(len(got), e)
	}
}

// P4.2: the errors, the list's ahead of the span's.
func TestSetAndClearInvalid(t *testing.T) {
	for i, x := range faulty {
		for _, in := range append(noSpans, api.Span{From: 3, Until: 4}) {
			got, e := timeline.Set(x.l, in, 1)
			if e != x.e || len(got) != 0 {
				t.Error("Set", i, in, len(got), e)
			}
			got, e = timeline.Clear(x.l, in)
			if e != x.e || len(got) != 0 {
				t.Error("Clear", i, in, len(got), e)
			}
		}
	}
	for i, l := range append(ordered, spaced(api.MaxList, 10, 1)) {
		for _, in := range noSpans {
			got, e := timeline.Set(l, in, 1)
			if e != api.ErrRange || len(got) != 0 {
				t.Error("Set", i, in, len(got), e)
			}
			got, e = timeline.Clear(l, in)
			if e != api.ErrRange || len(got) != 0 {
				t.Error("Clear", i, in, len(got), e)
			}
		}
	}
}

// spansOf returns the spans of the days on which something holds.
func spansOf(n, start int, holds func(i int) bool) []api.Span {
	var l []api.Span
	for i := range n {
		switch {
		case !holds(i):
		case i > 0 && holds(i-1):
			l[len(l)-1].Until++
		default:
			l = append(l, api.Span{From: start + i, Until: start + i + 1})
		}
	}
	return l
}

// P4.3: all pairs of timelines of a few days.
func TestChangesAndOver(t *testing.T) {
	eachValues(5, func(first []int) {
		eachValues(5, func(second []int) {
			for _, start := range shifts {
				a, b := timelineOf(first, start), timelineOf(second, start)
				over := slices.Clone(second)
				for i, v := range over {
					if v == none {
						over[i] = first[i]
					}
				}
				got, e := timeline.Over(a, b)
				checkList(t, fmt.Sprint(first, second, start), got, timelineOf(over, start), e)
				spans, e := timeline.Changes(a, b)
				want := spansOf(5, start, func(i int) bool { return first[i] != second[i] })
				if e != api.OK || !slices.Equal(spans, want) {
					t.Fatal(first, second, start, spans, want, e)
				}
				if !slices.Equal(a, timelineOf(first, start)) || !slices.Equal(b, timelineOf(second, start)) {
					t.Fatal("an argument was changed", first, second, start)
				}
			}
		})
	})
}

// P4.5: timelines that do not overlap, in either order.
func TestOverEitherOrder(t *testing.T) {
	eachValues(5, func(first []int) {
		eachValues(5, func(second []int) {
			for i := range first {
				if first[i] != none && second[i] != none {
					return
				}
			}
			a, b := timelineOf(first, 3), timelineOf(second, 3)
			one, e := timeline.Over(a, b)
			other, f := timeline.Over(b, a)
			if f != api.OK {
				t.Fatal(first, second, f)
			}
			checkList(t, fmt.Sprint(first, second), one, other, e)
		})
	})
}

// P4.3: the value 0 is another one than none.
func TestChangesOfZero(t *testing.T) {
	for _, pair := range [][2][]api.Piece{{{piece(3, 9, 0)}, nil}, {nil, {piece(3, 9, 0)}}} {
		spans, e := timeline.Changes(pair[0], pair[1])
		if e != api.OK || !slices.Equal(spans, []api.Span{{From: 3, Until: 9}}) {
			t.Error(pair, spans, e)
		}
	}
}

// P4.3: results of just as many elements as there may be, and of more.
func TestChangesAndOverLimit(t *testing.T) {
	const half = api.MaxList / 2
	a, b := spaced(half, 10, 1), spaced(half, 10000, 1)
	spans, e := timeline.Changes(a, b)
	if e != api.OK || len(spans) != api.MaxList {
		t.Error("Changes", len(spans), e)
	}
	pieces, e := timeline.Over(a, b)
	checkList(t, "Over", pieces, slices.Concat(a, b), e)
	b = spaced(half+1, 10000, 1)
	for _, pair := range [][2][]api.Piece{{a, b}, {b, a}, {spaced(api.MaxList, 10, 1), spaced(api.MaxList, 10000, 1)}} {
		if spans, e := timeline.Changes(pair[0], pair[1]); e != api.ErrTooLarge || len(spans) != 0 {
			t.Error("Changes", len(spans), e)
		}
		if pieces, e := timeline.Over(pair[0], pair[1]); e != api.ErrTooLarge || len(pieces) != 0 {
			t.Error("Over", len(pieces), e)
		}
	}
	full, gaps := spaced(api.MaxList, 10, 1), spaced(api.MaxList, 11, 2)
	if spans, e := timeline.Changes(full, gaps); e != api.OK || !slices.Equal(spans, []api.Span{{From: 10, Until: 10 + 2*api.MaxList}}) {
		t.Error("Changes", len(spans), e)
	}
	pieces, e = timeline.Over(full, spaced(api.MaxList, 11, 1))
	checkList(t, "Over", pieces, []api.Piece{piece(10, 10+2*api.MaxList, 1)}, e)
	if pieces, e := timeline.Over(full, gaps); e != api.ErrTooLarge || len(pieces) != 0 {
		t.Error("Over", len(pieces), e)
	}
}

// P4.3: the error of a counts ahead of that of b.
func TestChangesAndOverInvalid(t *testing.T) {
	check := func(a, b []api.Piece, want api.Errno) {
		t.Helper()
		if spans, e := timeline.Changes(a, b); e != want || len(spans) != 0 {
			t.Error("Changes", len(spans), e, want)
		}
		if pieces, e := timeline.Over(a, b); e != want || len(pieces) != 0 {
			t.Error("Over", len(pieces), e, want)
		}
	}
	for _, x := range faulty {
		for _, l := range ordered {
			check(x.l, l, x.e)
			check(l, x.l, x.e)
		}
		for _, y := range faulty {
			check(x.l, y.l, x.e)
		}
	}
}

// P4.4: all timelines of a few days.
func TestFirstAndDays(t *testing.T) {
	eachValues(5, func(values []int) {
		for _, start := range shifts {
			l := timelineOf(values, start)
			for value := -1; value <= 2; value++ {
				checkDays(t, l, values, value)
				for _, from := range []int{math.MinInt, -1, 0, start - 1, start, start + 1, start + 2, start + 3, start + 4, start + 5, api.Forever, math.MaxInt} {
					checkFirst(t, l, values, start, from, value)
				}
			}
		}
	})
}

func checkDays(t *testing.T, l []api.Piece, values []int, value int) {
	t.Helper()
	want := 0
	for _, v := range values {
		if v == value && v != none {
			want++
		}
	}
	if n := timeline.Days(l, value); n != want {
		t.Fatal(l, value, n)
	}
}

func checkFirst(t *testing.T, l []api.Piece, values []int, start, from, value int) {
	t.Helper()
	want, exists := 0, false
	for i, v := range values {
		if !exists && v == value && v != none && start+i >= from {
			want, exists = start+i, true
		}
	}
	if d, ok := timeline.First(l, from, value); d != want || ok != exists {
		t.Fatal(l, from, value, d, ok)
	}
}

// P4.4: a value of all days, and lists that are not in order.
func TestFirstAndDaysOtherwise(t *testing.T) {
	all := []api.Piece{piece(0, api.Forever, -3)}
	if n := timeline.Days(all, -3); n != api.Forever {
		t.Error(n)
	}
	for _, x := range []struct {
		from, day int
		ok        bool
	}{{math.MinInt, 0, true}, {0, 0, true}, {77, 77, true}, {api.MaxDay, api.MaxDay, true}, {api.Forever, 0, false}} {
		if d, ok := timeline.First(all, x.from, -3); d != x.day || ok != x.ok {
			t.Error(x, d, ok)
		}
	}
	for i, x := range faulty {
		for value := range 3 {
			if n := timeline.Days(x.l, value); n != 0 {
				t.Error(i, n)
			}
			if d, ok := timeline.First(x.l, 0, value); d != 0 || ok {
				t.Error(i, d, ok)
			}
		}
	}
}

// P4.2 and P4.3: results share no memory with arguments, also where nothing changes.
func TestNewMemory(t *testing.T) {
	l := make([]api.Piece, 3, 20)
	copy(l, []api.Piece{piece(10, 20, 1), piece(20, 30, 2), piece(40, 50, 1)})
	room := l[:20]
	kept := slices.Clone(room)
	results := func() [][]api.Piece {
		set, _ := timeline.Set(l, api.Span{From: 10, Until: 20}, 1)
		inside, _ := timeline.Set(l, api.Span{From: 12, Until: 13}, 5)
		cleared, _ := timeline.Clear(l, api.Span{From: 30, Until: 40})
		divided, _ := timeline.Clear(l, api.Span{From: 12, Until: 13})
		over, _ := timeline.Over(l, nil)
		under, _ := timeline.Over(nil, l)
		return [][]api.Piece{set, inside, cleared, divided, over, under}
	}
	for i, got := range results() {
		if len(got) == 0 {
			t.Fatal(i)
		}
		got = got[:cap(got)]
		for j := range got {
			got[j] = piece(1, 2, 3)
		}
		if !slices.Equal(room, kept) {
			t.Fatal("the argument was changed", i, room)
		}
	}
}
