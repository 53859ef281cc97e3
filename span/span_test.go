package span_test

import (
	"math"
	"testing"

	"archivum/api"
	"archivum/span"
)

// P4.1: the definition of a valid span, at its limits and beyond them.
func TestValid(t *testing.T) {
	for _, x := range []struct {
		s    api.Span
		want bool
	}{
		{api.Span{From: 0, Until: 1}, true},
		{api.Span{From: 0, Until: api.Forever}, true},
		{api.Span{From: api.MaxDay, Until: api.Forever}, true},
		{api.Span{}, false},
		{api.Span{From: 5, Until: 5}, false},
		{api.Span{From: 6, Until: 5}, false},
		{api.Span{From: -1, Until: 5}, false},
		{api.Span{From: 5, Until: api.Forever + 1}, false},
		{api.Span{From: api.Forever, Until: api.Forever}, false},
		{api.Span{From: math.MinInt, Until: math.MaxInt}, false},
		{api.Span{From: math.MaxInt, Until: math.MinInt}, false},
	} {
		if got := span.Valid(x.s); got != x.want {
			t.Error(x.s, got)
		}
	}
}

// P4.1: a span has the days from From to Until - 1, and a span without an end has no day behind the last one.
func TestHas(t *testing.T) {
	for _, x := range []struct {
		s    api.Span
		day  int
		want bool
	}{
		{api.Span{From: 3, Until: 5}, 2, false},
		{api.Span{From: 3, Until: 5}, 3, true},
		{api.Span{From: 3, Until: 5}, 4, true},
		{api.Span{From: 3, Until: 5}, 5, false},
		{api.Span{From: 0, Until: api.Forever}, 0, true},
		{api.Span{From: 0, Until: api.Forever}, -1, false},
		{api.Span{From: 0, Until: api.Forever}, api.MaxDay, true},
		{api.Span{From: 0, Until: api.Forever}, api.Forever, false},
		{api.Span{From: 0, Until: api.Forever}, math.MaxInt, false},
		{api.Span{From: 0, Until: api.Forever}, math.MinInt, false},
	} {
		if got := span.Has(x.s, x.day); got != x.want {
			t.Error(x.s, x.day, got)
		}
	}
}

// P6.4, P9.4, P10.3: a span can end on a day greater than its From and at most its Until.
func TestCanEnd(t *testing.T) {
	for _, x := range []struct {
		s    api.Span
		day  int
		want bool
	}{
		{api.Span{From: 3, Until: 5}, 2, false},
		{api.Span{From: 3, Until: 5}, 3, false},
		{api.Span{From: 3, Until: 5}, 4, true},
		{api.Span{From: 3, Until: 5}, 5, true},
		{api.Span{From: 3, Until: 5}, 6, false},
		{api.Span{From: 3, Until: 4}, 4, true},
		{api.Span{From: 0, Until: api.Forever}, 0, false},
		{api.Span{From: 0, Until: api.Forever}, 1, true},
		{api.Span{From: 0, Until: api.Forever}, api.MaxDay, true},
		{api.Span{From: 0, Until: api.Forever}, api.Forever, true},
		{api.Span{From: 0, Until: api.Forever}, api.Forever + 1, false},
		{api.Span{From: 0, Until: api.Forever}, math.MaxInt, false},
		{api.Span{From: 0, Until: api.Forever}, math.MinInt, false},
	} {
		if got := span.CanEnd(x.s, x.day); got != x.want {
			t.Error(x.s, x.day, got)
		}
	}
}
