// Package hex writes bytes as hexadecimal digits, and reads them: see the definitions of shared/doc/01-digest.md.
package hex

const digits = "0123456789abcdef"

// Format returns the text of a string: two digits for each byte, the higher half first.
func Format(data string) string {
	text := make([]byte, 0, 2*len(data))
	for i := range len(data) {
		text = append(text, digits[data[i]>>4], digits[data[i]&15])
	}
	return string(text)
}

// Parse returns the string with a text.
func Parse(text string) (string, bool) {
	if len(text)%2 != 0 {
		return "", false
	}
	data := make([]byte, len(text)/2)
	for i := range data {
		high, okHigh := valueOf(text[2*i])
		low, okLow := valueOf(text[2*i+1])
		if !okHigh || !okLow {
			return "", false
		}
		data[i] = high<<4 | low
	}
	return string(data), true
}

// valueOf admits small letters only, so that each string has one text.
func valueOf(digit byte) (byte, bool) {
	switch {
	case '0' <= digit && digit <= '9':
		return digit - '0', true
	case 'a' <= digit && digit <= 'f':
		return digit - 'a' + 10, true
	}
	return 0, false
}
