package dating_test

import (
	"fmt"
	"math/rand"
	"strings"
	"testing"
	"time"

	"archivum/api"
	"archivum/dating"
	"archivum/day"
)

// start is day 0, for a calendar that package time counts.
var start = time.Date(1600, 1, 1, 0, 0, 0, 0, time.UTC)

func dayOf(t *testing.T, text string) int {
	t.Helper()
	d, e := day.Parse(text)
	if e != api.OK {
		t.Fatal(text, e)
	}
	return d
}

func datingOf(t *testing.T, first, last string) api.Dating {
	t.Helper()
	return api.Dating{First: dayOf(t, first), Last: dayOf(t, last)}
}

func parsed(t *testing.T, text string) api.Dating {
	t.Helper()
	x, e := dating.Parse(text)
	if e != api.OK {
		t.Fatal(text, e)
	}
	return x
}

// reference returns the text of a dating, as package time knows the beginnings and ends of years and months.
func reference(x api.Dating) string {
	first, last := start.AddDate(0, 0, x.First), start.AddDate(0, 0, x.Last)
	switch {
	case x.First == 0 && x.Last == api.MaxDay:
		return "unknown"
	case beginsYear(first) && endsYear(last) && first.Year() == last.Year():
		return first.Format("2006")
	case beginsMonth(first) && endsMonth(last) && first.Year() == last.Year() && first.Month() == last.Month():
		return first.Format("2006-01")
	case x.First == x.Last:
		return first.Format("2006-01-02")
	case x.First == 0:
		return "before " + beginning(last.AddDate(0, 0, 1))
	case x.Last == api.MaxDay:
		return "after " + ending(first.AddDate(0, 0, -1))
	}
	return beginning(first) + "/" + ending(last)
}

func isLast(d time.Time) bool      { return d.Format("2006-01-02") == "4470-11-25" }
func beginsYear(d time.Time) bool  { return d.YearDay() == 1 }
func endsYear(d time.Time) bool    { return d.AddDate(0, 0, 1).YearDay() == 1 || isLast(d) }
func beginsMonth(d time.Time) bool { return d.Day() == 1 }
func endsMonth(d time.Time) bool   { return d.AddDate(0, 0, 1).Day() == 1 || isLast(d) }

func beginning(d time.Time) string {
	switch {
	case beginsYear(d):
		return d.Format("2006")
	case beginsMonth(d):
		return d.Format("2006-01")
	}
	return d.Format("2006-01-02")
}

func ending(d time.Time) string {
	switch {
	case endsYear(d):
		return d.Format("2006")
	case endsMonth(d):
		return d.Format("2006-01")
	}
	return d.Format("2006-01-02")
}

// checkText checks that a dating has this text, and this text its days.
func checkText(t *testing.T, x api.Dating, want string) {
	t.Helper()
	text, e := dating.Format(x)
	if text != want || e != api.OK {
		t.Fatal("Format", x, text, want, e)
	}
	if back, e := dating.Parse(text); back != x || e != api.OK {
		t.Fatal("Parse", text, x, back, e)
	}
}

// P3.3: all years, months and days.
func TestPeriods(t *testing.T) {
	for at, d := start, 0; d <= api.MaxDay; at, d = at.AddDate(0, 0, 1), d+1 {
		checkText(t, api.Dating{First: d, Last: d}, at.Format("2006-01-02"))
		if beginsMonth(at) {
			days := at.AddDate(0, 1, -1).Day()
			checkText(t, api.Dating{First: d, Last: min(d+days-1, api.MaxDay)}, at.Format("2006-01"))
		}
		if beginsYear(at) {
			days := at.AddDate(1, 0, -1).YearDay()
			checkText(t, api.Dating{First: d, Last: min(d+days-1, api.MaxDay)}, at.Format("2006"))
		}
	}
}

// P3.3: of the 800 first days and the 800 last ones, all datings that end with these.
func TestOpenEnds(t *testing.T) {
	for d := range 800 {
		for _, x := range []api.Dating{{First: 0, Last: d}, {First: d, Last: api.MaxDay}, {First: api.MaxDay - d, Last: api.MaxDay}, {First: 0, Last: api.MaxDay - d}} {
			checkText(t, x, reference(x))
		}
	}
}

// P3.3: all datings whose ends are near to those of years and months.
func TestNearEnds(t *testing.T) {
	var days []int
	for _, year := range []int{1600, 1601, 1699, 1700, 1923, 1924, 1999, 2000, 4469, 4470} {
		for month := 1; month <= 12; month++ {
			d, e := day.Of(year, month, 1)
			if e != api.OK {
				continue
			}
			for near := max(d-2, 0); near <= min(d+2, api.MaxDay); near++ {
				days = append(days, near)
			}
		}
	}
	days = append(days, api.MaxDay-1, api.MaxDay)
	for _, first := range days {
		for _, last := range days {
			if first <= last {
				x := api.Dating{First: first, Last: last}
				checkText(t, x, reference(x))
			}
		}
	}
}

// P3.3 and P3.4: datings of all lengths.
func TestManyDatings(t *testing.T) {
	r := rand.New(rand.NewSource(3))
	for range 100000 {
		first := r.Intn(api.MaxDay + 1)
		x := api.Dating{First: first, Last: first + r.Intn(1+min(api.MaxDay-first, 1<<r.Intn(21)))}
		checkText(t, x, reference(x))
	}
}

// P3.3: each form, with texts that Format would write otherwise.
func TestParse(t *testing.T) {
	for _, x := range []struct{ text, first, last, again string }{
		{"unknown", "1600-01-01", "4470-11-25", "unknown"},
		{"1600/4470", "1600-01-01", "4470-11-25", "unknown"},
		{"1600-01-01/4470-11", "1600-01-01", "4470-11-25", "unknown"},
		{"1600-01/4470-11-25", "1600-01-01", "4470-11-25", "unknown"},
		{"1923", "1923-01-01", "1923-12-31", "1923"},
		{"1923/1923", "1923-01-01", "1923-12-31", "1923"},
		{"1923-01/1923-12", "1923-01-01", "1923-12-31", "1923"},
		{"1923-01/1923-01-31", "1923-01-01", "1923-01-31", "1923-01"},
		{"1923-05-06/1923-05-06", "1923-05-06", "1923-05-06", "1923-05-06"},
		{"1923-04/1931", "1923-04-01", "1931-12-31", "1923-04/1931"},
		{"1923-04-02/1923", "1923-04-02", "1923-12-31", "1923-04-02/1923"},
		{"1923/1923-04", "1923-01-01", "1923-04-30", "1923/1923-04"},
		{"1923/1923-02-01", "1923-01-01", "1923-02-01", "1923/1923-02-01"},
		{"1923-01/1923-02", "1923-01-01", "1923-02-28", "1923/1923-02"},
		{"1923-05-31/1923-05", "1923-05-31", "1923-05-31", "1923-05-31"},
		{"before 1600-01-02", "1600-01-01", "1600-01-01", "1600-01-01"},
		{"before 1600-01-03", "1600-01-01", "1600-01-02", "before 1600-01-03"},
		{"before 1600-02", "1600-01-01", "1600-01-31", "1600-01"},
		{"before 1600-02-01", "1600-01-01", "1600-01-31", "1600-01"},
		{"before 1600-03", "1600-01-01", "1600-02-29", "before 1600-03"},
		{"1600/1600-02", "1600-01-01", "1600-02-29", "before 1600-03"},
		{"before 1601", "1600-01-01", "1600-12-31", "1600"},
		{"before 1924", "1600-01-01", "1923-12-31", "before 1924"},
		{"before 1924-01-01", "1600-01-01", "1923-12-31", "before 1924"},
		{"before 4470", "1600-01-01", "4469-12-31", "before 4470"},
		{"before 4470-11-25", "1600-01-01", "4470-11-24", "before 4470-11-25"},
		{"after 1600-01-01", "1600-01-02", "4470-11-25", "after 1600-01-01"},
		{"after 1600", "1601-01-01", "4470-11-25", "after 1600"},
		{"after 1923-12-31", "1924-01-01", "4470-11-25", "after 1923"},
		{"after 1924-02", "1924-03-01", "4470-11-25", "after 1924-02"},
		{"1924-03/4470", "1924-03-01", "4470-11-25", "after 1924-02"},
		{"after 4469", "4470-01-01", "4470-11-25", "4470"},
		{"after 4470-10", "4470-11-01", "4470-11-25", "4470-11"},
		{"after 4470-11-01", "4470-11-02", "4470-11-25", "after 4470-11-01"},
		{"after 4470-11-23", "4470-11-24", "4470-11-25", "after 4470-11-23"},
		{"after 4470-11-24", "4470-11-25", "4470-11-25", "4470-11-25"},
	} {
		want := datingOf(t, x.first, x.last)
		got, e := dating.Parse(x.text)
		again, f := dating.Format(want)
		if got != want || e != api.OK || again != x.again || f != api.OK {
			t.Error(x, got, e, again, f)
		}
	}
}

// P3.3: before, after and from one period to another one, against the days of the periods.
func TestParseForms(t *testing.T) {
	periods := []string{"1600", "1600-01", "1600-01-01", "1600-02-29", "1700-02", "1923", "1923-05", "1923-05-06", "4469", "4470", "4470-11", "4470-11-25"}
	for _, text := range periods {
		p := parsed(t, text)
		checkParsed(t, "before "+text, api.Dating{First: 0, Last: p.First - 1})
		checkParsed(t, "after "+text, api.Dating{First: p.Last + 1, Last: api.MaxDay})
		for _, other := range periods {
			checkParsed(t, text+"/"+other, api.Dating{First: p.First, Last: parsed(t, other).Last})
		}
	}
}

// checkParsed expects ErrRange if there is no day.
func checkParsed(t *testing.T, text string, want api.Dating) {
	t.Helper()
	wantError := api.OK
	if want.First > want.Last {
		want, wantError = api.Dating{}, api.ErrRange
	}
	if got, e := dating.Parse(text); got != want || e != wantError {
		t.Error(text, got, e)
	}
}

// P3.3: what does not have a form.
func TestParseSyntax(t *testing.T) {
	for _, text := range []string{
		"", " ", "/", "//", "-", "unknow", "unknown ", " unknown", "Unknown", "UNKNOWN", "unknown/unknown", "before unknown", "after unknown", "unknown/1923", "1923/unknown",
		"1", "19", "192", "19233", "1923-", "1923-4", "1923-004", "1923-04-", "1923-04-5", "1923-04-005", "1923-4-05", "192-04-05", "1923-04-05-", "1923-04-05-06", "1923--04", "1923-0405", "192304", "19230405", "1923/04", "1923/04/05",
		"+923", "-923", " 923", "923 ", "19_3", "0x19", "192a", "1923-+4", "1923- 4", "1923-x4", "1923-04-+5", "1923.04", "1923-04.05", "1923\x00", "\u0661923", "1923\n", " 1923", "1923 ",
		"before", "before ", "before  1923", "before1923", "before\t1923", "Before 1923", "before 192", "before 1923 ", "before 1923-4", "before before 1923", "before after 1923", "before 1923/1924", " before 1923", "before 1599-x", "before 1923-13-1",
		"after", "after ", "after  1923", "after1923", "After 1923", "after 192", "after 1923 ", "after 1923-4", "after after 1923", "after before 1923", "after 1923/1924", "after 4470-", "before 1600 ",
		"1923/", "/1923", "1923 /1924", "1923/ 1924", "1923//1924", "1923/1924/", "/1923/1924", "1923/1924/1925", "1923-1924", "1923/before 1924", "before 1923/after 1924", "1923/after 1924", "x/y",
		"1923-02-30/x", "x/1923-02-30", "1599/x", "x/4471", "1924/1923/", "1924/192",
		strings.Repeat("1923/", 10000), strings.Repeat("before ", 10000), strings.Repeat("1", 100000),
	} {
		if x, e := dating.Parse(text); x != (api.Dating{}) || e != api.ErrSyntax {
			t.Errorf("%.40q %v %v", text, x, e)
		}
	}
}

// P3.3: periods that do not exist, and forms without a day.
func TestParseRange(t *testing.T) {
	noPeriods := []string{
		"0000", "1599", "4471", "9999", "1599-12", "1600-00", "1600-13", "1923-00", "1923-13", "1923-99", "4470-12", "4470-13", "4471-01", "9999-99",
		"1599-12-31", "1923-02-29", "1900-02-29", "1923-00-01", "1923-13-01", "1923-04-00", "1923-04-31", "4470-11-26", "4470-11-30", "4470-12-01", "4471-01-01", "0000-00-00",
	}
	texts := []string{
		"before 1600", "before 1600-01", "before 1600-01-01", "after 4470", "after 4470-11", "after 4470-11-25",
		"1924/1923", "1923-02/1923-01", "1923-02-02/1923-02-01", "1924/1923-12-31", "1923-02/1923-01-31", "4470/1600", "4470-11-25/1600-01-01",
	}
	for _, text := range noPeriods {
		texts = append(texts, text, "before "+text, "after "+text, text+"/4470", "1600/"+text, text+"/"+text)
	}
	for _, text := range texts {
		if x, e := dating.Parse(text); x != (api.Dating{}) || e != api.ErrRange {
			t.Error(text, x, e)
		}
	}
}

// P3.3: one byte is another one. The digits and the letters are those of the form, and nothing else.
func TestParseBytes(t *testing.T) {
	for _, text := range []string{"unknown", "1923", "1923-04", "1923-04-05", "before 1923-04", "after 1923-04-05", "1923-04/1931", "1923/1931-05-06"} {
		for at := range len(text) {
			for b := range 256 {
				changed := []byte(text)
				changed[at] = byte(b)
				isForm := byte(b) == text[at] || '0' <= text[at] && text[at] <= '9' && '0' <= b && b <= '9'
				x, e := dating.Parse(string(changed))
				if isForm == (e == api.ErrSyntax) || e != api.OK && x != (api.Dating{}) {
					t.Fatalf("%q %v %v", changed, x, e)
				}
			}
		}
	}
}

// P3.3: all texts of years and months.
func TestParseNumbers(t *testing.T) {
	for year := range 10000 {
		exists := 1600 <= year && year <= 4470
		if _, e := dating.Parse(fmt.Sprintf("%04d", year)); (e == api.OK) != exists || !exists && e != api.ErrRange {
			t.Fatal(year, e)
		}
		for month := range 100 {
			exists := exists && 1 <= month && month <= 12 && (year < 4470 || month < 12)
			if _, e := dating.Parse(fmt.Sprintf("%04d-%02d", year, month)); (e == api.OK) != exists || !exists && e != api.ErrRange {
				t.Fatal(year, month, e)
			}
		}
	}
}

// P3.3
func TestFormatInvalid(t *testing.T) {
	for _, x := range invalid {
		if text, e := dating.Format(x); text != "" || e != api.ErrArg {
			t.Error(x, text, e)
		}
	}
}
