package hex_test

import (
	reference "encoding/hex"
	"math/rand"
	"strings"
	"testing"

	"archivum/hex"
)

// P1.3, P16.4: each byte, and strings of all lengths.
func TestFormat(t *testing.T) {
	for b := range 256 {
		data := string([]byte{byte(b)})
		if got := hex.Format(data); got != reference.EncodeToString([]byte(data)) {
			t.Errorf("%d %q", b, got)
		}
	}
	r := rand.New(rand.NewSource(1))
	for n := range 100 {
		data := make([]byte, n)
		r.Read(data)
		text := hex.Format(string(data))
		if text != reference.EncodeToString(data) {
			t.Errorf("%q %q", data, text)
		}
		if back, ok := hex.Parse(text); back != string(data) || !ok {
			t.Errorf("%q %q", text, back)
		}
	}
}

// P1.3, P16.4: all strings of two bytes, and what is no text.
func TestParse(t *testing.T) {
	const digits = "0123456789abcdef"
	for a := range 256 {
		for b := range 256 {
			text := string([]byte{byte(a), byte(b)})
			high, low := strings.IndexByte(digits, byte(a)), strings.IndexByte(digits, byte(b))
			want, valid := "", high >= 0 && low >= 0
			if valid {
				want = string([]byte{byte(16*high + low)})
			}
			if got, ok := hex.Parse(text); got != want || ok != valid {
				t.Errorf("%q %q %v", text, got, ok)
			}
		}
	}
	for _, text := range []string{"0", "000", "00 ", " 00", "00\n0", "0g00", "000G", "00FF", "0x00", "\xff\xff"} {
		if got, ok := hex.Parse(text); got != "" || ok {
			t.Errorf("%q %q", text, got)
		}
	}
	if got, ok := hex.Parse(""); got != "" || !ok {
		t.Errorf("%q %v", got, ok)
	}
}
