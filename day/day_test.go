package day_test

import (
	"fmt"
	"math"
	"testing"
	"time"

	"archivum/api"
	"archivum/day"
)

var noDays = []int{math.MinInt, -api.MaxDay, -1, api.MaxDay + 1, api.Forever + 1, 1 << 31, 1 << 40, math.MaxInt}

func of(t *testing.T, year, month, date int) int {
	t.Helper()
	d, e := day.Of(year, month, date)
	if e != api.OK {
		t.Fatal(year, month, date, e)
	}
	return d
}

// P2.1, P2.4 and P2.5: all days, against a calendar that package time counts.
func TestAllDays(t *testing.T) {
	at := time.Date(1600, 1, 1, 0, 0, 0, 0, time.UTC)
	for d := range api.MaxDay + 1 {
		y, m, n := at.Date()
		year, month, date, e := day.Date(d)
		if year != y || month != int(m) || date != n || e != api.OK {
			t.Fatal("Date", d, year, month, date, e)
		}
		if got, e := day.Of(y, int(m), n); got != d || e != api.OK {
			t.Fatal("Of", d, got, e)
		}
		// Package time counts from Sunday, the document from Monday.
		if w, e := day.Weekday(d); w != (int(at.Weekday())+6)%7 || e != api.OK {
			t.Fatal("Weekday", d, w, e)
		}
		text, e := day.Format(d)
		if text != at.Format("2006-01-02") || e != api.OK {
			t.Fatal("Format", d, text, e)
		}
		if got, e := day.Parse(text); got != d || e != api.OK {
			t.Fatal("Parse", d, got, e)
		}
		at = at.AddDate(0, 0, 1)
	}
	if at.Format("2006-01-02") != "4470-11-26" {
		t.Error("the last day was", at)
	}
}

// P2.1: the days that the document names.
func TestExamples(t *testing.T) {
	for _, x := range []struct{ d, year, month, date, weekday int }{
		{0, 1600, 1, 1, 5},
		{59, 1600, 2, 29, 1},
		{60, 1600, 3, 1, 2},
		{api.MaxDay, 4470, 11, 25, 1},
	} {
		year, month, date, e := day.Date(x.d)
		w, f := day.Weekday(x.d)
		if year != x.year || month != x.month || date != x.date || w != x.weekday || e != api.OK || f != api.OK {
			t.Error(x, year, month, date, w, e, f)
		}
		if d, e := day.Of(x.year, x.month, x.date); d != x.d || e != api.OK {
			t.Error(x, d, e)
		}
	}
}

// P2.1: what is no date, and what is outside of the days.
func TestOfInvalid(t *testing.T) {
	for _, x := range [][3]int{
		{1599, 12, 31}, {4470, 11, 26}, {4470, 11, 30}, {4470, 12, 1}, {4470, 12, 31}, {4471, 1, 1},
		{1700, 2, 29}, {1800, 2, 29}, {1900, 2, 29}, {2100, 2, 29}, {1601, 2, 29}, {2000, 2, 30}, {2001, 2, 29},
		{2000, 4, 31}, {2000, 6, 31}, {2000, 9, 31}, {2000, 11, 31}, {2000, 1, 32},
		{2000, 0, 1}, {2000, 13, 1}, {2000, -1, 1}, {2000, 1, 0}, {2000, 1, -1},
		{0, 0, 0}, {0, 1, 1}, {-1600, 1, 1}, {12000, 1, 1},
		{math.MaxInt, 1, 1}, {math.MinInt, 1, 1}, {2000, math.MaxInt, 1}, {2000, math.MinInt, 1},
		{2000, 1, math.MaxInt}, {2000, 1, math.MinInt}, {math.MaxInt, math.MaxInt, math.MaxInt}, {math.MinInt, math.MinInt, math.MinInt},
	} {
		if d, e := day.Of(x[0], x[1], x[2]); d != 0 || e != api.ErrRange {
			t.Error(x, d, e)
		}
	}
}

// P2.1, P2.3 and P2.4: numbers that are no days.
func TestNoDays(t *testing.T) {
	for _, d := range noDays {
		if year, month, date, e := day.Date(d); year != 0 || month != 0 || date != 0 || e != api.ErrRange {
			t.Error("Date", d, year, month, date, e)
		}
		if w, e := day.Weekday(d); w != 0 || e != api.ErrRange {
			t.Error("Weekday", d, w, e)
		}
		if end, e := day.YearEnd(d); end != 0 || e != api.ErrRange {
			t.Error("YearEnd", d, end, e)
		}
		if text, e := day.Format(d); text != "" || e != api.ErrRange {
			t.Error("Format", d, text, e)
		}
		for _, n := range []int{0, 1, 200, -1, 201} {
			if later, e := day.Years(d, n); later != 0 || e != api.ErrRange {
				t.Error("Years", d, n, later, e)
			}
		}
	}
}

// P2.2: all months, against package time, where day 0 of a month is the last one of the month before.
func TestLength(t *testing.T) {
	for year := 1600; year <= 4470; year++ {
		for month := 1; month <= 12; month++ {
			want := time.Date(year, time.Month(month+1), 0, 0, 0, 0, 0, time.UTC).Day()
			if got := day.Length(year, month); got != want {
				t.Error(year, month, got)
			}
		}
	}
	for year, want := range map[int]int{1600: 29, 1604: 29, 1700: 28, 1900: 28, 1999: 28, 2000: 29, 2100: 28, 2400: 29, 4468: 29, 4470: 28} {
		if got := day.Length(year, 2); got != want {
			t.Error(year, got)
		}
	}
}

// P2.2: outside of the years and months.
func TestLengthInvalid(t *testing.T) {
	for _, x := range [][2]int{
		{1599, 1}, {1599, 12}, {4471, 1}, {4471, 12}, {1600, 0}, {1600, 13}, {4470, 0}, {4470, 13}, {2000, -1}, {0, 0}, {-2000, 2},
		{math.MaxInt, 1}, {math.MinInt, 1}, {2000, math.MaxInt}, {2000, math.MinInt}, {math.MaxInt, math.MaxInt}, {math.MinInt, math.MinInt},
	} {
		if got := day.Length(x[0], x[1]); got != 0 {
			t.Error(x, got)
		}
	}
}

// P2.3: days of all kinds, with all numbers of years.
func TestYears(t *testing.T) {
	for d := 0; d <= api.MaxDay; d += 97 {
		checkYears(t, d)
	}
	for year := 1600; year <= 4470; year++ {
		if day.Length(year, 2) == 29 {
			checkYears(t, of(t, year, 2, 29))
		}
	}
}

func checkYears(t *testing.T, d int) {
	t.Helper()
	year, month, date, e := day.Date(d)
	if e != api.OK {
		t.Fatal(d, e)
	}
	for n := range api.MaxYears + 1 {
		want := api.MaxDay
		if year+n < 4470 || year+n == 4470 && (month < 11 || month == 11 && date <= 25) {
			to := date
			if month == 2 && date == 29 && day.Length(year+n, 2) == 28 {
				to = 28
			}
			want = of(t, year+n, month, to)
		}
		if got, e := day.Years(d, n); got != want || e != api.OK {
			t.Fatal(d, n, got, e)
		}
	}
}

// P2.3: 29 February, and the end of the days.
func TestYearsExamples(t *testing.T) {
	for _, x := range []struct {
		from string
		n    int
		want string
	}{
		{"1600-02-29", 0, "1600-02-29"},
		{"1600-02-29", 1, "1601-02-28"},
		{"1600-02-29", 4, "1604-02-29"},
		{"1600-02-29", 100, "1700-02-28"},
		{"1600-02-29", 200, "1800-02-28"},
		{"1800-02-28", 200, "2000-02-28"},
		{"1800-03-01", 200, "2000-03-01"},
		{"1600-01-01", 200, "1800-01-01"},
		{"4470-11-25", 0, "4470-11-25"},
		{"4470-11-25", 1, "4470-11-25"},
		{"4469-11-25", 1, "4470-11-25"},
		{"4469-11-24", 1, "4470-11-24"},
		{"4469-11-26", 1, "4470-11-25"},
		{"4469-12-01", 1, "4470-11-25"},
		{"4468-02-29", 2, "4470-02-28"},
		{"4468-02-29", 3, "4470-11-25"},
		{"4468-02-29", 200, "4470-11-25"},
	} {
		from, e := day.Parse(x.from)
		if e != api.OK {
			t.Fatal(x, e)
		}
		later, e := day.Years(from, x.n)
		if e != api.OK {
			t.Error(x, e)
		}
		if text, e := day.Format(later); text != x.want || e != api.OK {
			t.Error(x, text, e)
		}
	}
}

// P2.3
func TestYearsInvalid(t *testing.T) {
	for _, n := range []int{-1, 201, -200, 1 << 31, math.MaxInt, math.MinInt} {
		for _, d := range []int{0, 59, 150000, api.MaxDay} {
			if later, e := day.Years(d, n); later != 0 || e != api.ErrRange {
				t.Error(d, n, later, e)
			}
		}
	}
}

// P2.3: all days; the last year has no 31 December.
func TestYearEnd(t *testing.T) {
	for year := 1600; year <= 4470; year++ {
		start, want := of(t, year, 1, 1), api.MaxDay
		if year < 4470 {
			want = of(t, year, 12, 31)
		}
		for d := start; d <= want; d++ {
			if got, e := day.YearEnd(d); got != want || e != api.OK {
				t.Fatal(d, got, e)
			}
		}
	}
}

// P2.4: digits where they have to be, and nothing else.
func TestParseForm(t *testing.T) {
	const text = "1923-05-06"
	for at := range len(text) {
		for b := range 256 {
			changed := []byte(text)
			changed[at] = byte(b)
			d, e := day.Parse(string(changed))
			isForm := '0' <= b && b <= '9'
			if text[at] == '-' {
				isForm = b == '-'
			}
			if !isForm && (d != 0 || e != api.ErrSyntax) || isForm && e == api.ErrSyntax {
				t.Fatal(string(changed), d, e)
			}
		}
	}
}

// P2.4
func TestParseInvalid(t *testing.T) {
	for _, text := range []string{
		"", "-", "--", "1923", "1923-05", "1923-5-6", "1923-05-6", "1923-5-06", "923-05-06", "19230506", "01923-05-06", "1923-005-06",
		"1923-05-006", "1923-05-060", "1923-05-06 ", " 1923-05-06", "1923-05-06\n", "1923/05/06", "1923-05:06", "+923-05-06", "-923-05-06",
		"1923--5-06", "1923-+5-06", "1923-05--6", "1923-05-+6", "1923- 5-06", "192a-05-06", "1923-0x-06", "0x23-05-06", "1_23-05-06",
		"1923-13-3x", "1599-12-3x", "99-99-9999", "1923\x0005-06", "\u0661923-05-06",
	} {
		if d, e := day.Parse(text); d != 0 || e != api.ErrSyntax {
			t.Errorf("%q %v %v", text, d, e)
		}
	}
	for _, text := range []string{
		"0000-00-00", "9999-99-99", "1599-12-31", "4470-11-26", "4471-01-01", "1923-02-29", "1900-02-29", "1923-00-06", "1923-13-06", "1923-05-00", "1923-05-32", "1923-04-31",
	} {
		if d, e := day.Parse(text); d != 0 || e != api.ErrRange {
			t.Errorf("%q %v %v", text, d, e)
		}
	}
}

// P2.4: of all texts of one year's form just those of its days are accepted, and printed as the same texts.
func TestParseFormat(t *testing.T) {
	for _, year := range []int{1599, 1600, 1700, 2000, 2001, 4470, 4471} {
		for month := range 100 {
			for date := range 100 {
				text := fmt.Sprintf("%04d-%02d-%02d", year, month, date)
				d, e := day.Parse(text)
				want, f := day.Of(year, month, date)
				if d != want || e != f {
					t.Fatal(text, d, e)
				}
				if e != api.OK {
					continue
				}
				if back, e := day.Format(d); back != text || e != api.OK {
					t.Fatal(text, back, e)
				}
			}
		}
	}
}

// P2.5: the day behind a day has the next date.
func TestNextDate(t *testing.T) {
	for d := range api.MaxDay {
		year, month, date, _ := day.Date(d)
		switch {
		case date < day.Length(year, month):
			date++
		case month < 12:
			month, date = month+1, 1
		default:
			year, month, date = year+1, 1, 1
		}
		y, m, n, e := day.Date(d + 1)
		if y != year || m != month || n != date || e != api.OK {
			t.Fatal(d, y, m, n, e)
		}
	}
}

// P2.5: the calendar repeats behind 400 years.
func TestPeriod(t *testing.T) {
	const period = 146097
	for d := 0; d+period <= api.MaxDay; d++ {
		year, month, date, _ := day.Date(d)
		y, m, n, e := day.Date(d + period)
		if y != year+400 || m != month || n != date || e != api.OK {
			t.Fatal(d, y, m, n, e)
		}
		w, _ := day.Weekday(d)
		if v, e := day.Weekday(d + period); v != w || e != api.OK {
			t.Fatal(d, w, v, e)
		}
	}
}

// P2.5: Years keeps the order of days.
func TestYearsOrder(t *testing.T) {
	for _, n := range []int{0, 1, 4, 97, 100, 200} {
		before := 0
		for d := range api.MaxDay + 1 {
			later, e := day.Years(d, n)
			if later < before || later < d || e != api.OK {
				t.Fatal(d, n, later, e)
			}
			before = later
		}
	}
}

// P2.5: more years lead to a later day, or to the last one.
func TestYearsIncrease(t *testing.T) {
	for d := 59; d <= api.MaxDay; d += 211 {
		before, _ := day.Years(d, 0)
		if before != d {
			t.Fatal(d, before)
		}
		for n := 1; n <= api.MaxYears; n++ {
			later, e := day.Years(d, n)
			if e != api.OK || later <= before && later != api.MaxDay {
				t.Fatal(d, n, before, later, e)
			}
			before = later
		}
	}
}
