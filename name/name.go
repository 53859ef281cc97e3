// Package name says which strings are names: see the definitions of shared/doc/05-code.md and shared/doc/16-transfer.md, which agree.
package name

import (
	"strings"

	"archivum/api"
)

// Valid returns whether a string is a name.
func Valid(s string) bool {
	if s == "" || len(s) > api.MaxName {
		return false
	}
	for i := range len(s) {
		if s[i] < ' ' || s[i] > '~' {
			return false
		}
	}
	return s[0] != ' ' && s[len(s)-1] != ' ' && !strings.Contains(s, "  ")
}
