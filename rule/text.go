package rule

import (
	"iter"
	"strconv"
	"strings"

	"archivum/api"
	"archivum/day"
	"archivum/number"
)

const (
	blank    = " "
	lineFeed = "\n"
)

// The words of lines.
const (
	ruleWord     = "rule"
	classWord    = "class"
	afterWord    = "after"
	yearsWord    = "years"
	endWord      = "end"
	destroyWord  = "destroy"
	transferWord = "transfer"
	keepWord     = "keep"
	fromWord     = "from"
	untilWord    = "until"
)

// taker takes words off the beginning of a text in which a blank follows each word, and returns what is behind them.
type taker func(text string) (string, bool)

// Print returns the text of rules.
func Print(l []api.Rule) (string, api.Errno) {
	if _, e := Check(l); e != api.OK {
		return "", api.ErrArg
	}
	var text strings.Builder
	for _, r := range l {
		text.WriteString(strings.Join(words(r), blank) + lineFeed)
	}
	return text.String(), api.OK
}

// words returns the words of the line of a rule.
func words(r api.Rule) []string {
	l := []string{ruleWord, strconv.Itoa(r.ID), classWord, r.Class}
	if r.Action != api.ActionKeep {
		l = append(l, afterWord, quote+r.Trigger+quote, strconv.Itoa(r.Years), yearsWord)
	}
	if r.YearEnd {
		l = append(l, endWord)
	}
	l = append(l, actionWord(r.Action), fromWord, date(r.In.From))
	if r.In.Until != api.Forever {
		l = append(l, untilWord, date(r.In.Until))
	}
	return l
}

func actionWord(action int) string {
	switch action {
	case api.ActionDestroy:
		return destroyWord
	case api.ActionTransfer:
		return transferWord
	}
	return keepWord
}

func date(d int) string {
	text, _ := day.Format(d)
	return text
}

// Parse returns the rules with a text.
func Parse(text string) ([]api.Rule, int, api.Errno) {
	if len(text) > api.MaxData {
		return nil, -1, api.ErrTooLarge
	}
	var l []api.Rule
	for n, line := range lines(text) {
		r, ok := parseLine(line)
		if !ok {
			return nil, n, api.ErrSyntax
		}
		l = append(l, r)
	}
	if _, e := Check(l); e != api.OK {
		return nil, -1, api.ErrArg
	}
	return l, -1, api.OK
}

// lines yields the lines of a text with their numbers; only the last one can lack its line feed.
func lines(text string) iter.Seq2[int, string] {
	return func(yield func(n int, line string) bool) {
		n := 0
		for line := range strings.Lines(text) {
			if !yield(n, line) {
				return
			}
			n++
		}
	}
}

// parseLine returns the rule with a line.
func parseLine(line string) (api.Rule, bool) {
	r := api.Rule{In: api.Span{Until: api.Forever}}
	words, ended := strings.CutSuffix(line, lineFeed)
	rest, ok := takeRule(&r)(words + blank)
	return r, ended && ok && rest == ""
}

// takeRule returns what takes a whole line, and puts its words into a rule.
func takeRule(r *api.Rule) taker {
	takeClass := func(word string) bool {
		r.Class = word
		return isClass(word)
	}
	return inOrder(
		is(ruleWord), one(intoNumber(&r.ID)), is(classWord), one(takeClass),
		either(takeKeep(r), takePeriod(r)),
		is(fromWord), one(intoDay(&r.In.From)),
		either(inOrder(is(untilWord), one(intoDay(&r.In.Until))), nothing),
	)
}

// takeKeep takes the action of a rule that has no period.
func takeKeep(r *api.Rule) taker {
	return one(func(word string) bool {
		if word != keepWord {
			return false
		}
		r.Trigger, r.Action = keepTrigger, api.ActionKeep
		return true
	})
}

// takePeriod takes a period with the action behind it.
func takePeriod(r *api.Rule) taker {
	takeEnd := func(word string) bool {
		r.YearEnd = word == endWord
		return r.YearEnd
	}
	takeAction := func(word string) bool {
		r.Action = api.ActionDestroy
		if word == transferWord {
			r.Action = api.ActionTransfer
		}
		return word == actionWord(r.Action)
	}
	return inOrder(
		is(afterWord), quoted(&r.Trigger), one(intoNumber(&r.Years)), is(yearsWord),
		either(one(takeEnd), nothing),
		one(takeAction),
	)
}

// one takes a word that a function accepts.
func one(accepts func(word string) bool) taker {
	return func(text string) (string, bool) {
		word, rest, ok := strings.Cut(text, blank)
		return rest, ok && accepts(word)
	}
}

func is(word string) taker {
	return one(func(other string) bool { return other == word })
}

func intoNumber(n *int) func(word string) bool {
	return func(word string) bool {
		var ok bool
		*n, ok = number.Parse(word)
		return ok
	}
}

func intoDay(d *int) func(word string) bool {
	return func(word string) bool {
		var e api.Errno
		*d, e = day.Parse(word)
		return e == api.OK
	}
}

// quoted takes a word in quotation marks, which can contain blanks.
func quoted(word *string) taker {
	return func(text string) (string, bool) {
		text, opened := strings.CutPrefix(text, quote)
		content, rest, closed := strings.Cut(text, quote)
		rest, followed := strings.CutPrefix(rest, blank)
		*word = content
		return rest, opened && closed && followed
	}
}

func inOrder(l ...taker) taker {
	return func(text string) (string, bool) {
		for _, take := range l {
			rest, ok := take(text)
			if !ok {
				return "", false
			}
			text = rest
		}
		return text, true
	}
}

// either takes what the first one of two takers takes, or else what the second one does.
func either(first, second taker) taker {
	return func(text string) (string, bool) {
		if rest, ok := first(text); ok {
			return rest, true
		}
		return second(text)
	}
}

func nothing(text string) (string, bool) { return text, true }
