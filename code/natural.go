package code

import (
	"cmp"
	"iter"
	"slices"
	"sort"
	"strings"
)

// The kinds of parts, in the order in which they are compared.
const (
	kindNone = iota // behind the last part of a string
	kindDigits
	kindByte
)

// texts is a list of strings that is sorted in the natural order.
type texts []string

func (l texts) less(i, k int) bool { return Natural(l[i], l[k]) < 0 }

// Sort returns strings in their natural order.
func Sort(l []string) []string {
	sorted := slices.Clone(l)
	sort.Slice(sorted, texts(sorted).less)
	return sorted
}

// Natural compares two strings in their natural order.
func Natural(a, b string) int {
	for p, q := range parts(a, b) {
		if order := compareParts(p, q); order != 0 {
			return order
		}
	}
	return strings.Compare(a, b)
}

// parts yields the parts of two strings in pairs. Behind the last part of one of them there are empty ones.
func parts(a, b string) iter.Seq2[string, string] {
	return func(yield func(p, q string) bool) {
		restA, restB := a, b
		for restA != "" || restB != "" {
			p, q := firstPart(restA), firstPart(restB)
			if !yield(p, q) {
				return
			}
			restA, restB = restA[len(p):], restB[len(q):]
		}
	}
}

// firstPart returns the run of digits or the other byte with which a string begins.
func firstPart(s string) string {
	n := 0
	for n < len(s) && isDigit(s[n]) {
		n++
	}
	if n == 0 && s != "" {
		n = 1
	}
	return s[:n]
}

func isDigit(b byte) bool { return '0' <= b && b <= '9' }

func kindOf(part string) int {
	switch {
	case part == "":
		return kindNone
	case isDigit(part[0]):
		return kindDigits
	default:
		return kindByte
	}
}

func compareParts(p, q string) int {
	if order := cmp.Compare(kindOf(p), kindOf(q)); order != 0 {
		return order
	}
	// Runs of digits can be too long for any type of integers.
	p, q = strings.TrimLeft(p, "0"), strings.TrimLeft(q, "0")
	return cmp.Or(cmp.Compare(len(p), len(q)), strings.Compare(p, q))
}
