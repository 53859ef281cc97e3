// Package day converts between days and dates: see shared/doc/02-day.md.
package day

import "archivum/api"

const (
	firstYear    = 1600
	lastYear     = 4470
	firstWeekday = 5 // day 0 is a Saturday
)

// lengths are those of the months of a year that is no leap year.
var lengths = [12]int{31, 28, 31, 30, 31, 30, 31, 31, 30, 31, 30, 31}

// Of returns the day of a date.
func Of(year, month, day int) (int, api.Errno) {
	if day < 1 || day > Length(year, month) {
		return 0, api.ErrRange
	}
	d := yearStart(year) + day - 1
	for i := range month - 1 {
		d += Length(year, i+1)
	}
	if !isDay(d) {
		return 0, api.ErrRange
	}
	return d, api.OK
}

// yearStart returns how many days are before a year. The leap years among n years are rounded up, since the first of them is one.
func yearStart(year int) int {
	n := year - firstYear
	return 365*n + (n+3)/4 - (n+99)/100 + (n+399)/400
}

func isDay(d int) bool { return 0 <= d && d <= api.MaxDay }

func isLeap(year int) bool {
	return year%4 == 0 && year%100 != 0 || year%400 == 0
}

// Date returns the date of a day.
func Date(d int) (year, month, day int, e api.Errno) {
	if !isDay(d) {
		return 0, 0, 0, api.ErrRange
	}
	// No year has more than 366 days: this one is not too late, and a few years too early at most.
	year = firstYear + d/366
	for yearStart(year+1) <= d {
		year++
	}
	month = 1
	day = d - yearStart(year) + 1
	for day > Length(year, month) {
		day -= Length(year, month)
		month++
	}
	return year, month, day, api.OK
}

// Weekday returns the day of the week.
func Weekday(d int) (int, api.Errno) {
	if !isDay(d) {
		return 0, api.ErrRange
	}
	return (d + firstWeekday) % 7, api.OK
}

// Length returns how many days a month has.
func Length(year, month int) int {
	if year < firstYear || year > lastYear || month < 1 || month > len(lengths) {
		return 0
	}
	if month == 2 && isLeap(year) {
		return 29
	}
	return lengths[month-1]
}

// Years returns the day so many years later.
func Years(d, n int) (int, api.Errno) {
	year, month, day, e := Date(d)
	if e != api.OK || n < 0 || n > api.MaxYears {
		return 0, api.ErrRange
	}
	if month == 2 && day == 29 && !isLeap(year+n) {
		day = 28
	}
	return ofOrLast(year+n, month, day), api.OK
}

// ofOrLast is for dates that exist, but may be behind MaxDay.
func ofOrLast(year, month, day int) int {
	d, e := Of(year, month, day)
	if e != api.OK {
		return api.MaxDay
	}
	return d
}

// YearEnd returns the last day of the year of a day.
func YearEnd(d int) (int, api.Errno) {
	year, _, _, e := Date(d)
	if e != api.OK {
		return 0, e
	}
	return ofOrLast(year, 12, 31), api.OK
}

// Format returns the text of a day.
func Format(d int) (string, api.Errno) {
	year, month, day, e := Date(d)
	if e != api.OK {
		return "", e
	}
	return digits(year, 4) + "-" + digits(month, 2) + "-" + digits(day, 2), api.OK
}

func digits(n, width int) string {
	text := make([]byte, width)
	for i := range width {
		text[width-1-i] = byte('0' + n%10)
		n /= 10
	}
	return string(text)
}

// Parse returns the day with a text.
func Parse(text string) (int, api.Errno) {
	if len(text) != len("1600-01-01") || text[4] != '-' || text[7] != '-' {
		return 0, api.ErrSyntax
	}
	year, okYear := number(text[:4])
	month, okMonth := number(text[5:7])
	day, okDay := number(text[8:])
	if !okYear || !okMonth || !okDay {
		return 0, api.ErrSyntax
	}
	return Of(year, month, day)
}

// number admits decimal digits only: a sign would give a day a second text.
func number(text string) (int, bool) {
	n := 0
	for i := range len(text) {
		if text[i] < '0' || text[i] > '9' {
			return 0, false
		}
		n = 10*n + int(text[i]-'0')
	}
	return n, true
}
