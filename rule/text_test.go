package rule_test

import (
	"fmt"
	"math/rand"
	"regexp"
	"slices"
	"strconv"
	"strings"
	"testing"
	"time"

	"archivum/api"
	"archivum/rule"
)

// dateOf returns the date of a day.
func dateOf(d int) string { return start.AddDate(0, 0, d).Format(time.DateOnly) }

// lineOf returns the line of a rule without a fault.
func lineOf(r api.Rule) string {
	period := " keep"
	if r.Action != 3 {
		end := map[bool]string{true: " end"}[r.YearEnd]
		period = fmt.Sprintf(" after \"%s\" %d years%s %s", r.Trigger, r.Years, end, []string{"destroy", "transfer"}[r.Action-1])
	}
	until := ""
	if r.In.Until != 1<<20 {
		until = " until " + dateOf(r.In.Until)
	}
	return fmt.Sprintf("rule %d class %s%s from %s%s\n", r.ID, r.Class, period, dateOf(r.In.From), until)
}

// textOf returns the text of rules without a fault.
func textOf(l []api.Rule) string {
	text := ""
	for _, r := range l {
		text += lineOf(r)
	}
	return text
}

const (
	numberForm = `(0|[1-9][0-9]{0,9})`
	classForm  = `((?:[1-9][0-9]{0,2})(?:\.[1-9][0-9]{0,2}){0,5})`
	dateForm   = `([0-9]{4}-[0-9]{2}-[0-9]{2})`
	periodForm = `after "([^"\n]*)" ` + numberForm + ` years( end)? (destroy|transfer)`
)

// lineForm is the form of both lines.
var lineForm = regexp.MustCompile(`^rule ` + numberForm + ` class ` + classForm + ` (?:keep|` + periodForm + `) from ` + dateForm + `(?: until ` + dateForm + `)?\n$`)

// readDate returns the day with a date that exists.
func readDate(text string) (int, bool) {
	date, err := time.Parse(time.DateOnly, text)
	d := int(date.Unix()-start.Unix()) / 86400
	return d, err == nil && !date.Before(start) && d <= api.MaxDay
}

// readLine returns the rule with a line.
func readLine(line string) (api.Rule, bool) {
	words := lineForm.FindStringSubmatch(line)
	if words == nil {
		return api.Rule{}, false
	}
	r := api.Rule{Class: words[2], Trigger: words[3], YearEnd: words[5] != "", Action: map[string]int{"": 3, "destroy": 1, "transfer": 2}[words[6]], In: api.Span{Until: 1 << 20}}
	if r.Action == 3 {
		r.Trigger = "opened"
	}
	r.ID, _ = strconv.Atoi(words[1])
	r.Years, _ = strconv.Atoi(words[4])
	var ok bool
	if r.In.From, ok = readDate(words[7]); !ok {
		return r, false
	}
	if words[8] != "" {
		r.In.Until, ok = readDate(words[8])
	}
	return r, ok && r.ID <= 1<<30 && r.Years <= 1<<30
}

// read is Parse by its definition.
func read(text string) ([]api.Rule, int, api.Errno) {
	if len(text) > 1<<16 {
		return nil, -1, api.ErrTooLarge
	}
	var l []api.Rule
	for n, line := range strings.SplitAfter(text, "\n") {
		if line == "" {
			continue
		}
		r, ok := readLine(line)
		if !ok {
			return nil, n, api.ErrSyntax
		}
		l = append(l, r)
	}
	if _, e := check(l); e != api.OK {
		return nil, -1, api.ErrArg
	}
	return l, -1, api.OK
}

// compare compares Parse with its definition.
func compare(t *testing.T, text string) {
	t.Helper()
	want, wantAt, wantE := read(text)
	if l, at, e := rule.Parse(text); at != wantAt || e != wantE || !slices.Equal(l, want) {
		t.Fatalf("%q %v %v %v, not %v %v %v", text, l, at, e, want, wantAt, wantE)
	}
}

// P9.2: the example of the chapter.
func TestTextExample(t *testing.T) {
	const line = "rule 12 class 3.1 after \"closed\" 10 years end destroy from 1990-01-01 until 2005-01-01\n"
	if text, e := rule.Print([]api.Rule{one(12)}); text != line || e != api.OK {
		t.Error(text, e)
	}
	if l, at, e := rule.Parse(line); !slices.Equal(l, []api.Rule{one(12)}) || at != -1 || e != api.OK {
		t.Error(l, at, e)
	}
}

// P9.2: every form of a line, and none.
func TestTexts(t *testing.T) {
	from := dayOf("1923-04-05")
	term := api.Rule{ID: 1, Class: "1", Trigger: "last payment", Action: api.ActionTransfer, In: api.Span{From: from, Until: api.Forever}}
	ended, yearEnd := term, term
	ended.In.Until, ended.Years = api.MaxDay, 1
	yearEnd.YearEnd, yearEnd.Years = true, 200
	kept := keep(api.MaxID, "1.2.3.4.5.6")
	kept.In = api.Span{From: 0, Until: 1}
	last := keep(2, "999")
	last.In.From = api.MaxDay
	for _, x := range []struct {
		l    []api.Rule
		text string
	}{
		{nil, ""},
		{[]api.Rule{term}, "rule 1 class 1 after \"last payment\" 0 years transfer from 1923-04-05\n"},
		{[]api.Rule{ended}, "rule 1 class 1 after \"last payment\" 1 years transfer from 1923-04-05 until 4470-11-25\n"},
		{[]api.Rule{yearEnd}, "rule 1 class 1 after \"last payment\" 200 years end transfer from 1923-04-05\n"},
		{[]api.Rule{term, last, kept}, "rule 1 class 1 after \"last payment\" 0 years transfer from 1923-04-05\nrule 2 class 999 keep from 4470-11-25\nrule 1073741824 class 1.2.3.4.5.6 keep from 1600-01-01 until 1600-01-02\n"},
	} {
		if text, e := rule.Print(x.l); text != x.text || e != api.OK {
			t.Errorf("%q %q %v", x.text, text, e)
		}
		if l, at, e := rule.Parse(x.text); !slices.Equal(l, x.l) || at != -1 || e != api.OK {
			t.Error(x.text, l, at, e)
		}
	}
}

// P9.2: each word of a line alone is another one, and lines that differ from their form in one place.
func TestParseFaults(t *testing.T) {
	const line = "rule 12 class 3.1 after \"closed\" 10 years end destroy from 1990-01-01 until 2005-01-01\n"
	const keep = "rule 12 class 3.1 keep from 1990-01-01 until 2005-01-01\n"
	for _, x := range []struct {
		line, old, new string
		at             int
		e              api.Errno
	}{
		{line, "rule", "Rule", 0, api.ErrSyntax},
		{line, "rule ", "", 0, api.ErrSyntax},
		{line, "rule", " rule", 0, api.ErrSyntax},
		{line, "rule 12", "rule 1 2", 0, api.ErrSyntax},
		{line, "12", "012", 0, api.ErrSyntax},
		{line, "12", "+12", 0, api.ErrSyntax},
		{line, "12", "-12", 0, api.ErrSyntax},
		{line, "12", "", 0, api.ErrSyntax},
		{line, "12", "1073741825", 0, api.ErrSyntax},
		{line, "12", "99999999999999999999", 0, api.ErrSyntax},
		{line, "12", "1073741824", -1, api.OK},
		{line, "12", "0", -1, api.ErrArg},
		{line, "class", "klass", 0, api.ErrSyntax},
		{line, "3.1", "", 0, api.ErrSyntax},
		{line, "3.1", "3.01", 0, api.ErrSyntax},
		{line, "3.1", "3.1.", 0, api.ErrSyntax},
		{line, "3.1", "3.1000", 0, api.ErrSyntax},
		{line, "3.1", "1.2.3.4.5.6.7", 0, api.ErrSyntax},
		{line, "3.1", "1.2.3.4.5.6", -1, api.OK},
		{line, "after", "behind", 0, api.ErrSyntax},
		{line, "\"closed\"", "closed", 0, api.ErrSyntax},
		{line, "\"closed\"", "\"closed", 0, api.ErrSyntax},
		{line, "\"closed\"", "closed\"", 0, api.ErrSyntax},
		{line, "\"closed\"", "\"clo\"sed\"", 0, api.ErrSyntax},
		{line, "\"closed\"", "\"\"closed\"", 0, api.ErrSyntax},
		{line, "\"closed\"", "\"closed\"\"", 0, api.ErrSyntax},
		{line, "\"closed\" ", "\"closed\"", 0, api.ErrSyntax},
		{line, "\"closed\"", "\"closed\" ", 0, api.ErrSyntax},
		{line, "\"closed\"", "\"\"", -1, api.ErrArg},
		{line, "\"closed\"", "\" closed\"", -1, api.ErrArg},
		{line, "\"closed\"", "\"closed \"", -1, api.ErrArg},
		{line, "\"closed\"", "\"clo  sed\"", -1, api.ErrArg},
		{line, "\"closed\"", "\"clo\tsed\"", -1, api.ErrArg},
		{line, "\"closed\"", "\"clo\x80sed\"", -1, api.ErrArg},
		{line, "\"closed\"", "\"clo\nsed\"", 0, api.ErrSyntax},
		{line, "\"closed\"", "\"" + strings.Repeat("a", 64) + "\"", -1, api.OK},
		{line, "\"closed\"", "\"" + strings.Repeat("a", 65) + "\"", -1, api.ErrArg},
		{line, " 10", " 010", 0, api.ErrSyntax},
		{line, " 10", " ten", 0, api.ErrSyntax},
		{line, " 10", " 1073741825", 0, api.ErrSyntax},
		{line, " 10", " 1073741824", -1, api.ErrArg},
		{line, " 10", " 201", -1, api.ErrArg},
		{line, " 10", " 200", -1, api.OK},
		{line, " 10", " 0", -1, api.OK},
		{line, " 10", "", 0, api.ErrSyntax},
		{line, "years", "year", 0, api.ErrSyntax},
		{line, " end", "", -1, api.OK},
		{line, " end", " end end", 0, api.ErrSyntax},
		{line, " end", " End", 0, api.ErrSyntax},
		{line, " destroy", " transfer", -1, api.OK},
		{line, " destroy", " keep", 0, api.ErrSyntax},
		{line, " destroy", " Destroy", 0, api.ErrSyntax},
		{line, " destroy", "", 0, api.ErrSyntax},
		{line, " destroy", " destroy transfer", 0, api.ErrSyntax},
		{line, "from", "since", 0, api.ErrSyntax},
		{line, " from 1990-01-01", "", 0, api.ErrSyntax},
		{line, "1990-01-01", "1990-1-1", 0, api.ErrSyntax},
		{line, "1990-01-01", "1990-02-29", 0, api.ErrSyntax},
		{line, "1990-01-01", "1599-12-31", 0, api.ErrSyntax},
		{line, "1990-01-01", "4470-11-26", 0, api.ErrSyntax},
		{line, "1990-01-01", "2005-01-01", -1, api.ErrArg},
		{line, "1990-01-01", "2004-12-31", -1, api.OK},
		{line, "1990-01-01", "2005-01-02", -1, api.ErrArg},
		{line, " until 2005-01-01", "", -1, api.OK},
		{line, " until 2005-01-01", " until", 0, api.ErrSyntax},
		{line, " until 2005-01-01", " until ", 0, api.ErrSyntax},
		{line, "until", "Until", 0, api.ErrSyntax},
		{line, "2005-01-01", "2005-13-01", 0, api.ErrSyntax},
		{line, "2005-01-01", "4470-11-25", -1, api.OK},
		{line, "2005-01-01", "4470-11-26", 0, api.ErrSyntax},
		{line, "2005-01-01", "2005-01-01 ", 0, api.ErrSyntax},
		{line, "\n", "", 0, api.ErrSyntax},
		{line, "\n", " \n", 0, api.ErrSyntax},
		{line, "\n", "\r\n", 0, api.ErrSyntax},
		{line, "\n", "\n\n", 1, api.ErrSyntax},
		{line, "\n", "\n ", 1, api.ErrSyntax},
		{line, line, "\n" + line, 0, api.ErrSyntax},
		{line, line, " ", 0, api.ErrSyntax},
		{line, line, line + line, -1, api.ErrArg},
		{keep, "keep", "Keep", 0, api.ErrSyntax},
		{keep, "keep", "destroy", 0, api.ErrSyntax},
		{keep, "keep", "end keep", 0, api.ErrSyntax},
		{keep, "keep", "keep keep", 0, api.ErrSyntax},
		{keep, "keep", "keep end", 0, api.ErrSyntax},
		{keep, " keep", "", 0, api.ErrSyntax},
		{keep, "keep", "after \"opened\" 0 years keep", 0, api.ErrSyntax},
		{keep, " until 2005-01-01", "", -1, api.OK},
		{keep, "1990-01-01", "2005-01-01", -1, api.ErrArg},
	} {
		text := strings.Replace(x.line, x.old, x.new, 1)
		l, at, e := rule.Parse(text)
		if at != x.at || e != x.e || (e == api.OK) != (len(l) == 1) {
			t.Errorf("%q %v %v %v", text, l, at, e)
		}
		compare(t, text)
		// Behind a line that is right, the error is one line later.
		before := strings.Replace(keep, "12", "1", 1)
		if x.at >= 0 {
			if _, at, e := rule.Parse(before + text); at != x.at+1 || e != x.e {
				t.Errorf("%q %v %v", text, at, e)
			}
		}
	}
}

// P9.2: the first line with a fault of its form counts, and such faults are ahead of faults of rules.
func TestParseOrderOfErrors(t *testing.T) {
	const good, bad = "rule 5 class 1 keep from 1990-01-01\n", "rule 6 class x keep from 1990-01-01\n"
	for _, x := range []struct {
		text string
		at   int
		e    api.Errno
	}{
		{good + good, -1, api.ErrArg},
		{good + good + bad, 2, api.ErrSyntax},
		{good + bad + good + bad, 1, api.ErrSyntax},
		{strings.Repeat(good, 70), -1, api.ErrArg},
		{strings.Repeat(good, 70) + bad, 70, api.ErrSyntax},
		{strings.Repeat(good, 70) + strings.TrimSpace(good), 70, api.ErrSyntax},
		{strings.Repeat("\n", 1<<16), 0, api.ErrSyntax},
		{strings.Repeat("\n", 1<<16+1), -1, api.ErrTooLarge},
		{strings.Repeat(" ", 1<<16), 0, api.ErrSyntax},
		{good + strings.Repeat("a", 1<<16), -1, api.ErrTooLarge},
	} {
		if l, at, e := rule.Parse(x.text); at != x.at || e != x.e || len(l) != 0 {
			t.Errorf("%.60q %v %v %v", x.text, l, at, e)
		}
	}
	full := strings.Repeat(good, (1<<16)/len(good))
	full += "rule 1 class 1 after \"" + strings.Repeat("a", 1<<16)
	if _, at, e := rule.Parse(full[:1<<16]); at != 1<<16/len(good) || e != api.ErrSyntax {
		t.Error(at, e)
	}
}

// P9.2: the greatest list has a text, and one more rule has none.
func TestTextOfMany(t *testing.T) {
	var l []api.Rule
	for id := range 65 {
		r := one(api.MaxID - 64 + id)
		r.Class, r.Trigger, r.Years, r.Action = "999.999.999.999.999.999", strings.Repeat("x", 64), 200, api.ActionTransfer
		l = append(l, r)
	}
	text, e := rule.Print(l[:64])
	if text != textOf(l[:64]) || e != api.OK {
		t.Error(text, e)
	}
	if m, at, e := rule.Parse(text); !slices.Equal(m, l[:64]) || at != -1 || e != api.OK {
		t.Error(m, at, e)
	}
	if text, e := rule.Print(l); text != "" || e != api.ErrArg {
		t.Error(text, e)
	}
	if m, at, e := rule.Parse(textOf(l)); len(m) != 0 || at != -1 || e != api.ErrArg {
		t.Error(m, at, e)
	}
}

// P9.2, P9.5: Print writes what has no fault, and Parse restores it.
func TestRoundTrip(t *testing.T) {
	r := rand.New(rand.NewSource(11))
	for range 5000 {
		l := spoiled(r)
		text, e := rule.Print(l)
		if _, f := check(l); f != api.OK {
			if text != "" || e != api.ErrArg {
				t.Fatal(l, text, e)
			}
			continue
		}
		if text != textOf(l) || e != api.OK {
			t.Fatal(l, text, e)
		}
		if m, at, e := rule.Parse(text); !slices.Equal(m, l) || at != -1 || e != api.OK {
			t.Fatal(l, m, at, e)
		}
	}
}

// spoilText changes a text in one place: by words, or by bytes.
func spoilText(r *rand.Rand, text string) string {
	if r.Intn(2) == 0 {
		words := strings.SplitAfter(text, " ")
		i, j := r.Intn(len(words)), r.Intn(len(words))
		switch r.Intn(3) {
		case 0:
			words[i], words[j] = words[j], words[i]
		case 1:
			words = slices.Delete(words, i, i+1)
		case 2:
			words = slices.Insert(words, i, words[j])
		}
		return strings.Join(words, "")
	}
	i := r.Intn(len(text) + 1)
	j := min(i+r.Intn(2), len(text))
	return text[:i] + pick(r, "", " ", "\n", "\"", "0", "1", "9", ".", "-", "a", "e", "\x00", "\xc3", "\u00e9") + text[j:]
}

// P9.2, P9.5: Parse accepts texts of rules and no others.
func TestParseTexts(t *testing.T) {
	r := rand.New(rand.NewSource(12))
	accepted := 0
	for range 30000 {
		text := textOf(randomList(r))
		for range 1 + r.Intn(3) {
			text = spoilText(r, text)
		}
		compare(t, text)
		if l, _, e := rule.Parse(text); e == api.OK {
			accepted++
			if again, e := rule.Print(l); again != text || e != api.OK {
				t.Fatalf("%q %q %v", text, again, e)
			}
		}
	}
	if accepted < 1000 {
		t.Error(accepted)
	}
}
