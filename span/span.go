// Package span says which spans are valid, and which days they have: see the definitions of shared/doc/04-timeline.md.
package span

import "archivum/api"

// Valid returns whether a span is valid.
func Valid(s api.Span) bool { return 0 <= s.From && s.From < s.Until && s.Until <= api.Forever }

// Has returns whether a span has a day.
func Has(s api.Span, day int) bool { return s.From <= day && day < s.Until }

// CanEnd returns whether a span has its end on a day, or can be cut to end there.
func CanEnd(s api.Span, day int) bool { return s.From < day && day <= s.Until }
