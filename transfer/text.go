package transfer

import (
	"iter"
	"strconv"
	"strings"

	"archivum/api"
	"archivum/hex"
	"archivum/number"
)

const (
	blank    = " "
	lineFeed = "\n"
)

// The words with which lines begin.
const (
	listWord = "list"
	itemWord = "item"
)

// Print returns the text of a list.
func Print(l api.TransferList) (string, api.Errno) {
	if !isRight(l) {
		return "", api.ErrArg
	}
	var text strings.Builder
	text.WriteString(line(listWord, strconv.Itoa(l.ID), strconv.Itoa(l.Office), strconv.Itoa(l.Day)))
	for _, x := range l.Items {
		text.WriteString(line(
			itemWord, strconv.Itoa(x.Number), strconv.Itoa(x.File),
			strconv.Itoa(x.Dating.First), strconv.Itoa(x.Dating.Last), strconv.Itoa(x.Pages),
			hex.Format(x.Digest), x.Title,
		))
	}
	return text.String(), api.OK
}

// line returns the line with some words.
func line(words ...string) string { return strings.Join(words, blank) + lineFeed }

// Parse returns the list with a text.
func Parse(text string) (api.TransferList, int, api.Errno) {
	if len(text) > api.MaxData {
		return api.TransferList{}, 0, api.ErrTooLarge
	}
	lines := strings.SplitAfterN(text, lineFeed, 2)
	l, ok := parseHead(lines[0])
	if !ok {
		return api.TransferList{}, 1, api.ErrSyntax
	}
	n := 1
	// The first line has its line feed, so that a second part follows, if only an empty one.
	for x, ok := range items(lines[1]) {
		n++
		if !ok {
			return api.TransferList{}, n, api.ErrSyntax
		}
		l.Items = append(l.Items, x)
	}
	if !isRight(l) {
		return api.TransferList{}, n, api.ErrArg
	}
	return l, 0, api.OK
}

// items yields the item of each line of a text, and whether the line has its form.
func items(text string) iter.Seq2[api.Listed, bool] {
	return func(yield func(x api.Listed, ok bool) bool) {
		for line := range strings.Lines(text) {
			if !yield(parseItem(line)) {
				return
			}
		}
	}
}

// parseHead returns the list that has a line as its first one.
func parseHead(line string) (api.TransferList, bool) {
	words, ok := wordsOf(line, listWord, 4)
	if !ok {
		return api.TransferList{}, false
	}
	var l api.TransferList
	ok = parseNumbers(words, &l.ID, &l.Office, &l.Day)
	return l, ok
}

// parseItem returns the item with a line.
func parseItem(line string) (api.Listed, bool) {
	words, ok := wordsOf(line, itemWord, 8)
	if !ok {
		return api.Listed{}, false
	}
	x := api.Listed{Title: words[6]}
	okNumbers := parseNumbers(words[:5], &x.Number, &x.File, &x.Dating.First, &x.Dating.Last, &x.Pages)
	digest, okDigest := hex.Parse(words[5])
	x.Digest = digest
	return x, okNumbers && okDigest && len(digest) == api.DigestSize
}

// wordsOf returns the words of a line behind the one with which it has to begin. Of so many words the last one can contain blanks.
func wordsOf(line, first string, n int) ([]string, bool) {
	text, ended := strings.CutSuffix(line, lineFeed)
	words := strings.SplitN(text, blank, n)
	return words[1:], ended && len(words) == n && words[0] == first
}

// parseNumbers puts the numbers with some texts where pointers point to.
func parseNumbers(texts []string, numbers ...*int) bool {
	for i, p := range numbers {
		n, ok := number.Decimal(texts[i])
		if !ok {
			return false
		}
		*p = n
	}
	return true
}
