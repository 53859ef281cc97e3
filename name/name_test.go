package name_test

import (
	"regexp"
	"strings"
	"testing"

	"archivum/api"
	"archivum/name"
)

// P5.3, P16.1: each byte alone, and in the middle of others.
func TestBytes(t *testing.T) {
	for b := range 256 {
		s := string([]byte{byte(b)})
		if got, want := name.Valid(s), b > 32 && b < 127; got != want {
			t.Errorf("%q %v", s, got)
		}
		if got, want := name.Valid("a"+s+"b"), b >= 32 && b < 127; got != want {
			t.Errorf("%q %v", s, got)
		}
	}
}

// P5.3, P16.1: all short strings with blanks, and the length.
func TestValid(t *testing.T) {
	form := regexp.MustCompile(`^[!-~]( ?[!-~])*$`)
	var compare func(s string)
	compare = func(s string) {
		if got := name.Valid(s); got != form.MatchString(s) {
			t.Errorf("%q %v", s, got)
		}
		for _, c := range " a~\x7f" {
			if len(s) < 6 {
				compare(s + string(c))
			}
		}
	}
	compare("")
	for n := range 100 {
		if got := name.Valid(strings.Repeat("x", n)); got != (1 <= n && n <= api.MaxName) {
			t.Error(n, got)
		}
	}
}
