package dating

import (
	"strings"

	"archivum/api"
	"archivum/day"
)

const (
	unknownText = "unknown"
	beforeWord  = "before "
	afterWord   = "after "
	separator   = "/"
)

// Lengths of the texts of periods. Each is a beginning of the text of any day of the period.
const (
	yearLength  = len("1923")
	monthLength = len("1923-04")
	dayLength   = len("1923-04-05")
)

// period is a year, a month or a day.
type period struct {
	text string
	days api.Dating
}

// reader reads the texts of one form, and returns ErrSyntax for all others.
type reader func(text string) (api.Dating, api.Errno)

// Format returns the text of a dating.
func Format(x api.Dating) (string, api.Errno) {
	if e := Check(x); e != api.OK {
		return "", e
	}
	if x == unknown() {
		return unknownText, api.OK
	}
	just := func(days api.Dating) bool { return days == x }
	if text, ok := longest(x.First, just); ok {
		return text, api.OK
	}
	// There is a day behind Last, and one ahead of First: otherwise the dating would be unknown.
	if x.First == 0 {
		return beforeWord + beginning(x.Last+1), api.OK
	}
	if x.Last == api.MaxDay {
		return afterWord + ending(x.First-1), api.OK
	}
	return beginning(x.First) + separator + ending(x.Last), api.OK
}

func unknown() api.Dating { return api.Dating{First: 0, Last: api.MaxDay} }

// beginning returns the text of the longest period that begins on a day.
func beginning(d int) string {
	text, _ := longest(d, func(days api.Dating) bool { return days.First == d })
	return text
}

// ending returns the text of the longest period that ends on a day.
func ending(d int) string {
	text, _ := longest(d, func(days api.Dating) bool { return days.Last == d })
	return text
}

// longest returns the text of the longest period around a day whose days fit.
func longest(d int, fit func(days api.Dating) bool) (string, bool) {
	for _, p := range periodsAround(d) {
		if fit(p.days) {
			return p.text, true
		}
	}
	return "", false
}

// periodsAround returns the year, the month and the day in which a day is.
func periodsAround(d int) [3]period {
	var l [3]period
	text, e := day.Format(d)
	if e != api.OK {
		return l
	}
	for i, length := range [3]int{yearLength, monthLength, dayLength} {
		days, _ := readPeriod(text[:length])
		l[i] = period{text[:length], days}
	}
	return l
}

// Parse returns the dating with a text.
func Parse(text string) (api.Dating, api.Errno) {
	for _, read := range readers() {
		if x, e := read(text); e != api.ErrSyntax {
			return x, e
		}
	}
	return api.Dating{}, api.ErrSyntax
}

// readers has one reader for each form of texts. No text has two forms.
func readers() [5]reader {
	return [5]reader{
		readUnknown,
		readPeriod,
		wordReader(beforeWord, func(p api.Dating) api.Dating { return api.Dating{First: 0, Last: p.First - 1} }),
		wordReader(afterWord, func(p api.Dating) api.Dating { return api.Dating{First: p.Last + 1, Last: api.MaxDay} }),
		readPair,
	}
}

func readUnknown(text string) (api.Dating, api.Errno) {
	if text != unknownText {
		return api.Dating{}, api.ErrSyntax
	}
	return unknown(), api.OK
}

// readPeriod lets layer 2 read the first day, so that a period exists if its first day does.
func readPeriod(text string) (api.Dating, api.Errno) {
	switch len(text) {
	case yearLength:
		return readDays(text+"-01-01", yearEnd)
	case monthLength:
		return readDays(text+"-01", monthEnd)
	case dayLength:
		return readDays(text, func(first int) int { return first })
	}
	return api.Dating{}, api.ErrSyntax
}

func readDays(text string, end func(first int) int) (api.Dating, api.Errno) {
	first, e := day.Parse(text)
	if e != api.OK {
		return api.Dating{}, e
	}
	return api.Dating{First: first, Last: end(first)}, api.OK
}

func yearEnd(first int) int {
	last, _ := day.YearEnd(first)
	return last
}

// monthEnd takes into account that the last month ends early.
func monthEnd(first int) int {
	year, month, _, _ := day.Date(first)
	return min(first+day.Length(year, month)-1, api.MaxDay)
}

// wordReader returns the reader of a word and a period behind it; beside says which days are meant by the word.
func wordReader(word string, beside func(p api.Dating) api.Dating) reader {
	return func(text string) (api.Dating, api.Errno) {
		rest, ok := strings.CutPrefix(text, word)
		if !ok {
			return api.Dating{}, api.ErrSyntax
		}
		p, e := readPeriod(rest)
		if e != api.OK {
			return api.Dating{}, e
		}
		return withDays(beside(p))
	}
}

// readPair reads both periods before it judges: the form counts before the days.
func readPair(text string) (api.Dating, api.Errno) {
	from, to, _ := strings.Cut(text, separator)
	p, e := readPeriod(from)
	q, f := readPeriod(to)
	switch {
	case e == api.ErrSyntax || f == api.ErrSyntax:
		return api.Dating{}, api.ErrSyntax
	case e != api.OK || f != api.OK:
		return api.Dating{}, api.ErrRange
	}
	return withDays(api.Dating{First: p.First, Last: q.Last})
}

// withDays refuses what has no day.
func withDays(x api.Dating) (api.Dating, api.Errno) {
	if Check(x) != api.OK {
		return api.Dating{}, api.ErrRange
	}
	return x, api.OK
}
