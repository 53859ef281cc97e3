// Package number says which numbers are IDs, days, or within other bounds, and reads them from texts: see the rules of shared/DOC.md.
package number

import (
	"strconv"

	"archivum/api"
)

// maxDigits is how many digits the greatest ID has.
const maxDigits = 10

// From returns whether a number is one from the least to the greatest one.
func From(n, least, greatest int) bool { return least <= n && n <= greatest }

// IsID returns whether a number can be an ID.
func IsID(n int) bool { return From(n, 1, api.MaxID) }

// IsDay returns whether a number is a day.
func IsDay(n int) bool { return From(n, 0, api.MaxDay) }

// Parse returns the number from 0 to MaxID that has a text.
func Parse(text string) (int, bool) {
	n, ok := Decimal(text)
	if !ok || n > api.MaxID {
		return 0, false
	}
	return n, true
}

// Decimal returns the number of up to ten digits that has a text.
func Decimal(text string) (int, bool) {
	n, err := strconv.Atoi(text)
	// Atoi admits signs and leading zeros, which would give a number a second text.
	if err != nil || len(text) > maxDigits || text != "0" && text[0] < '1' {
		return 0, false
	}
	return n, true
}
