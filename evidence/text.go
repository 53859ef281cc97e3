package evidence

import (
	"slices"
	"strconv"
	"strings"

	"archivum/api"
	"archivum/code"
	"archivum/day"
	"archivum/number"
)

// Format returns the text of steps.
func Format(l []api.Step) (string, api.Errno) {
	switch {
	case len(l) > api.MaxList:
		return "", api.ErrTooLarge
	case slices.ContainsFunc(l, func(s api.Step) bool { return !hasLine(s) }):
		return "", api.ErrArg
	}
	var text strings.Builder
	for _, s := range l {
		text.WriteString(lineOf(s))
	}
	return text.String(), api.OK
}

// hasLine returns whether a step has what its line contains.
func hasLine(s api.Step) bool {
	if !number.From(s.Number, 0, api.MaxID) || !hasText(s) {
		return false
	}
	switch s.Kind {
	case api.StepOpen:
		return number.IsDay(s.First) && (number.IsDay(s.Last) || s.Last == api.Forever)
	case api.StepDone:
		return number.From(s.Number, doneDestroyed, doneTransferred) && number.IsDay(s.First)
	case api.StepClass, api.StepRule, api.StepHold:
		return true
	case api.StepTrigger:
		return number.IsDay(s.First) && number.IsDay(s.Last)
	case api.StepDue:
		return number.IsDay(s.Last)
	case api.StepSelected:
		return number.IsDay(s.First)
	case api.StepEnd:
		return isEnd(s)
	}
	return false
}

func isEnd(s api.Step) bool {
	return number.From(s.Number, api.VerdictNone, api.VerdictTransfer) &&
		number.From(s.First, 0, api.MaxID) &&
		number.IsDay(s.Last) &&
		(s.First != 0 || s.Last == 0)
}

// hasText returns whether a step has a class as its text if it needs one, and otherwise no text.
func hasText(s api.Step) bool {
	if s.Kind != api.StepClass || s.Number == 0 {
		return s.Text == ""
	}
	_, e := code.Parse(s.Text)
	return e == api.OK
}

// lineOf returns the line of a step that has one.
func lineOf(s api.Step) string {
	n := strconv.Itoa(s.Number)
	switch s.Kind {
	case api.StepOpen:
		if s.Last == api.Forever {
			return line("opened ", date(s.First), ", open")
		}
		return line("opened ", date(s.First), ", closed ", date(s.Last))
	case api.StepDone:
		if s.Number == doneDestroyed {
			return line("destroyed ", date(s.First))
		}
		return line("transferred ", date(s.First))
	case api.StepClass:
		if s.Number == 0 {
			return line("no class")
		}
		return line("class ", s.Text, " in version ", n)
	case api.StepRule:
		return line("rule ", n, " applies")
	case api.StepTrigger:
		return line("rule ", n, " starts from ", date(s.First), " to ", date(s.Last))
	case api.StepDue:
		return line("rule ", n, " is due after ", date(s.Last))
	case api.StepHold:
		return line("hold ", n)
	case api.StepSelected:
		return line("selected by appraisal ", n, " on ", date(s.First))
	}
	return line("verdict ", word(s.Number), reason(s))
}

// line joins the parts of a line.
func line(parts ...string) string { return strings.Join(parts, "") + "\n" }

func date(n int) string {
	text, _ := day.Format(n)
	return text
}

// word returns the word for a kind of verdict.
func word(kind int) string {
	return [...]string{
		api.VerdictNone:     "none",
		api.VerdictGone:     "gone",
		api.VerdictMoved:    "moved",
		api.VerdictOpen:     "open",
		api.VerdictForever:  "for ever",
		api.VerdictWait:     "wait",
		api.VerdictKeep:     "keep",
		api.VerdictHold:     "hold",
		api.VerdictDestroy:  "destroy",
		api.VerdictTransfer: "transfer",
	}[kind]
}

// reason returns the rule and the due day behind a verdict, as far as it has them.
func reason(s api.Step) string {
	switch {
	case s.First == 0:
		return ""
	case s.Last == 0:
		return " by rule " + strconv.Itoa(s.First)
	}
	return " by rule " + strconv.Itoa(s.First) + ", due after " + date(s.Last)
}
