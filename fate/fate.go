// Package fate says what has become of a file, and what the rules say about it: see the definitions of shared/doc/11-verdict.md. Registries are ones without a fault, but Destroyed, Transferred and Selected take any.
package fate

import (
	"slices"

	"archivum/api"
	"archivum/file"
	"archivum/plan"
	"archivum/rule"
	"archivum/span"
)

// Entry is an entry about a file: its day, and the number of the certificate or of the sample (a departure has none).
type Entry struct{ Number, Day int }

// Destroyed returns the entry by which a file was destroyed, if this was on a day or before it.
func Destroyed(r api.Registry, id, by int) (Entry, bool) {
	for _, c := range r.Certificates {
		if c.Day <= by && slices.Contains(c.Files, id) {
			return Entry{c.Number, c.Day}, true
		}
	}
	return Entry{}, false
}

// Transferred returns the entry by which a file was transferred, if this was on a day or before it.
func Transferred(r api.Registry, id, by int) (Entry, bool) {
	for _, d := range r.Departures {
		if d.Day <= by && d.File == id {
			return Entry{Day: d.Day}, true
		}
	}
	return Entry{}, false
}

// Selected returns the first entry by which a file was selected, if this was on a day or before it.
func Selected(r api.Registry, id, by int) (Entry, bool) {
	for _, s := range r.Selections {
		if s.Day <= by && slices.Contains(s.Files, id) {
			return Entry{s.Sample, s.Day}, true
		}
	}
	return Entry{}, false
}

// Term is a rule that applies to a file on a day. It has started if the file has its trigger, which then has the dating Start; the file is kept up to the day Due.
type Term struct {
	Rule    api.Rule
	Started bool
	Start   api.Dating
	Due     int
}

// Class returns the class of a file on a day, or an empty string if it has none. Unlike file.Class it does not check all plan versions again for each file.
func Class(r api.Registry, f api.File, day int) string {
	from, to := versionOn(r, f.Opened), versionOn(r, day)
	if from > to {
		return ""
	}
	class := f.Class
	for i := from; i < to; i++ {
		class, _ = plan.Next(r.Plans[i], r.Plans[i+1], class)
	}
	return class
}

// versionOn returns the index of the plan version in force on a day, or -1.
func versionOn(r api.Registry, day int) int {
	return slices.IndexFunc(r.Plans, func(p api.Plan) bool { return span.Has(p.In, day) })
}

// Terms returns the terms of a file on a day, in the order of the rules.
func Terms(r api.Registry, f api.File, day int) []Term {
	var terms []Term
	// To an empty class no rule applies.
	for _, id := range rule.Apply(r.Rules, Class(r, f, day), day) {
		terms = append(terms, termOf(r.Rules[rule.Find(r.Rules, id)], f, day))
	}
	return terms
}

func termOf(x api.Rule, f api.File, day int) Term {
	start, ok := file.Trigger(f, x.Trigger, day)
	if !ok {
		return Term{Rule: x}
	}
	due, _ := rule.Due(x, start)
	return Term{Rule: x, Started: true, Start: start, Due: due}
}
