package evidence_test

import (
	"math"
	"slices"
	"strings"
	"testing"

	"archivum/api"
	"archivum/evidence"
)

// P12.3: the line of each kind of step, at the limits of what it contains.
func TestFormat(t *testing.T) {
	const last = api.MaxDay
	for i, x := range []struct {
		s    api.Step
		want string
	}{
		{api.Step{Kind: api.StepOpen, First: 0, Last: 59}, "opened 1600-01-01, closed 1600-02-29"},
		{api.Step{Kind: api.StepOpen, First: 60, Last: 0}, "opened 1600-03-01, closed 1600-01-01"},
		{api.Step{Kind: api.StepOpen, First: last, Last: last}, "opened 4470-11-25, closed 4470-11-25"},
		{api.Step{Kind: api.StepOpen, First: 59, Last: api.Forever}, "opened 1600-02-29, open"},
		{api.Step{Kind: api.StepOpen, Number: 5, First: 59, Last: api.Forever}, "opened 1600-02-29, open"},
		{api.Step{Kind: api.StepDone, Number: 1, First: 31}, "destroyed 1600-02-01"},
		{api.Step{Kind: api.StepDone, Number: 2, First: 31}, "transferred 1600-02-01"},
		{api.Step{Kind: api.StepDone, Number: 2, First: last}, "transferred 4470-11-25"},
		{api.Step{Kind: api.StepDone, Number: 2, First: 0, Last: -1}, "transferred 1600-01-01"},
		{api.Step{Kind: api.StepClass, Number: 1, Text: "1"}, "class 1 in version 1"},
		{api.Step{Kind: api.StepClass, Number: 16, Text: "3.12.999.1.2.3"}, "class 3.12.999.1.2.3 in version 16"},
		{api.Step{Kind: api.StepClass, Number: api.MaxID, Text: "2", First: -1, Last: -1}, "class 2 in version 1073741824"},
		{api.Step{Kind: api.StepClass}, "no class"},
		{api.Step{Kind: api.StepRule, Number: 12}, "rule 12 applies"},
		{api.Step{Kind: api.StepRule, Number: 0, First: -1, Last: math.MaxInt}, "rule 0 applies"},
		{api.Step{Kind: api.StepRule, Number: api.MaxID}, "rule 1073741824 applies"},
		{api.Step{Kind: api.StepTrigger, Number: 12, First: 0, Last: last}, "rule 12 starts from 1600-01-01 to 4470-11-25"},
		{api.Step{Kind: api.StepTrigger, Number: 12, First: last, Last: 0}, "rule 12 starts from 4470-11-25 to 1600-01-01"},
		{api.Step{Kind: api.StepDue, Number: 12, First: -1, Last: last}, "rule 12 is due after 4470-11-25"},
		{api.Step{Kind: api.StepDue, Number: 12, Last: 0}, "rule 12 is due after 1600-01-01"},
		{api.Step{Kind: api.StepHold, Number: 5}, "hold 5"},
		{api.Step{Kind: api.StepHold, Number: 0, First: -1, Last: -1}, "hold 0"},
		{api.Step{Kind: api.StepSelected, Number: 4, First: 31, Last: -1}, "selected by appraisal 4 on 1600-02-01"},
		{api.Step{Kind: api.StepSelected, Number: 4, First: last}, "selected by appraisal 4 on 4470-11-25"},
		{api.Step{Kind: api.StepSelected, Number: 4, First: 0}, "selected by appraisal 4 on 1600-01-01"},
		{api.Step{Kind: api.StepEnd}, "verdict none"},
		{api.Step{Kind: api.StepEnd, Number: 9, First: api.MaxID}, "verdict transfer by rule 1073741824"},
		{api.Step{Kind: api.StepEnd, Number: 0, First: 1}, "verdict none by rule 1"},
		{api.Step{Kind: api.StepEnd, Number: 8, First: 1, Last: 1}, "verdict destroy by rule 1, due after 1600-01-02"},
		{api.Step{Kind: api.StepEnd, Number: 1, First: 3, Last: last}, "verdict gone by rule 3, due after 4470-11-25"},
	} {
		if text, e := evidence.Format([]api.Step{x.s}); e != api.OK || text != x.want+"\n" {
			t.Errorf("%v %q %v", i, text, e)
		}
	}
}

// P12.3: the words of all kinds of verdicts, without a rule, with one, and with a due day, too.
func TestFormatEnd(t *testing.T) {
	for kind, word := range []string{"none", "gone", "moved", "open", "for ever", "wait", "keep", "hold", "destroy", "transfer"} {
		l := []api.Step{{Kind: api.StepEnd, Number: kind}, {Kind: api.StepEnd, Number: kind, First: 12}, {Kind: api.StepEnd, Number: kind, First: 12, Last: 59}}
		want := "verdict " + word + "\nverdict " + word + " by rule 12\nverdict " + word + " by rule 12, due after 1600-02-29\n"
		if text, e := evidence.Format(l); e != api.OK || text != want {
			t.Errorf("%q %v", text, e)
		}
	}
}

// P12.3: what makes a step faulty.
func TestFormatErrors(t *testing.T) {
	for i, s := range []api.Step{
		{},
		{Kind: -1},
		{Kind: 10},
		{Kind: math.MaxInt},
		{Kind: math.MinInt},
		{Kind: api.StepOpen, First: -1, Last: 5},
		{Kind: api.StepOpen, First: api.MaxDay + 1, Last: 5},
		{Kind: api.StepOpen, First: api.Forever, Last: api.Forever},
		{Kind: api.StepOpen, First: 5, Last: -1},
		{Kind: api.StepOpen, First: 5, Last: api.Forever + 1},
		{Kind: api.StepOpen, Number: -1, First: 5, Last: 9},
		{Kind: api.StepOpen, Number: api.MaxID + 1, First: 5, Last: 9},
		{Kind: api.StepOpen, First: 5, Last: 9, Text: "1"},
		{Kind: api.StepDone, Number: 0, First: 5},
		{Kind: api.StepDone, Number: 3, First: 5},
		{Kind: api.StepDone, Number: 1, First: -1},
		{Kind: api.StepDone, Number: 1, First: api.Forever},
		{Kind: api.StepDone, Number: 1, First: 5, Text: "1"},
		{Kind: api.StepClass, Number: -1, Text: "1"},
		{Kind: api.StepClass, Number: -1},
		{Kind: api.StepClass, Number: api.MaxID + 1, Text: "1"},
		{Kind: api.StepClass, Number: 1},
		{Kind: api.StepClass, Number: 1, Text: "01"},
		{Kind: api.StepClass, Number: 1, Text: "1.1000"},
		{Kind: api.StepClass, Number: 0, Text: "1"},
		{Kind: api.StepClass, Number: 0, Text: "x"},
		{Kind: api.StepRule, Number: -1},
		{Kind: api.StepRule, Number: api.MaxID + 1},
		{Kind: api.StepRule, Number: 1, Text: "1"},
		{Kind: api.StepTrigger, Number: -1},
		{Kind: api.StepTrigger, Number: math.MaxInt},
		{Kind: api.StepTrigger, Number: 1, First: -1},
		{Kind: api.StepTrigger, Number: 1, First: api.Forever},
		{Kind: api.StepTrigger, Number: 1, Last: -1},
		{Kind: api.StepTrigger, Number: 1, Last: api.Forever},
		{Kind: api.StepTrigger, Number: 1, Text: "x"},
		{Kind: api.StepDue, Number: -1},
		{Kind: api.StepDue, Number: api.MaxID + 1},
		{Kind: api.StepDue, Number: 1, Last: -1},
		{Kind: api.StepDue, Number: 1, Last: api.Forever},
		{Kind: api.StepDue, Number: 1, Text: "x"},
		{Kind: api.StepHold, Number: -1},
		{Kind: api.StepHold, Number: api.MaxID + 1},
		{Kind: api.StepHold, Number: 1, Text: "1"},
		{Kind: api.StepSelected, Number: -1},
		{Kind: api.StepSelected, Number: api.MaxID + 1},
		{Kind: api.StepSelected, Number: 1, First: -1},
		{Kind: api.StepSelected, Number: 1, First: api.Forever},
		{Kind: api.StepSelected, Number: 1, Text: "1"},
		{Kind: api.StepEnd, Number: -1},
		{Kind: api.StepEnd, Number: 10},
		{Kind: api.StepEnd, Number: math.MinInt},
		{Kind: api.StepEnd, Number: 9, First: -1},
		{Kind: api.StepEnd, Number: 9, First: api.MaxID + 1},
		{Kind: api.StepEnd, Number: 9, First: 1, Last: -1},
		{Kind: api.StepEnd, Number: 9, First: 1, Last: api.Forever},
		{Kind: api.StepEnd, Number: 9, Last: 1},
		{Kind: api.StepEnd, Number: 9, First: 1, Last: 1, Text: "1"},
	} {
		for _, l := range [][]api.Step{{s}, {{Kind: api.StepHold, Number: 1}, s}, {s, {Kind: api.StepHold, Number: 1}}} {
			if text, e := evidence.Format(l); e != api.ErrArg || text != "" {
				t.Errorf("%v %q %v", i, text, e)
			}
		}
	}
}

// P12.3: a list has 1024 steps at most, and lines in the order of its steps.
func TestFormatLists(t *testing.T) {
	for _, empty := range [][]api.Step{nil, {}} {
		if text, e := evidence.Format(empty); e != api.OK || text != "" {
			t.Errorf("%q %v", text, e)
		}
	}
	two := []api.Step{{Kind: api.StepHold, Number: 2}, {Kind: api.StepRule, Number: 1}}
	if text, e := evidence.Format(two); e != api.OK || text != "hold 2\nrule 1 applies\n" {
		t.Errorf("%q %v", text, e)
	}
	many := slices.Repeat(two, 512)
	if text, e := evidence.Format(many); e != api.OK || text != strings.Repeat("hold 2\nrule 1 applies\n", 512) {
		t.Error(len(text), e)
	}
	if text, e := evidence.Format(append(many, two[0])); e != api.ErrTooLarge || text != "" {
		t.Error(len(text), e)
	}
	if text, e := evidence.Format(append(many, api.Step{})); e != api.ErrTooLarge || text != "" {
		t.Error(len(text), e)
	}
}
