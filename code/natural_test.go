package code_test

import (
	"cmp"
	"math/big"
	"math/rand"
	"regexp"
	"slices"
	"strings"
	"testing"

	"archivum/code"
)

// pieces finds runs of digits and single bytes in a string whose bytes are runes.
var pieces = regexp.MustCompile(`(?s)[0-9]+|.`)

// piecesOf divides a string as the document says.
func piecesOf(s string) []string {
	var runes []rune
	for i := range len(s) {
		runes = append(runes, rune(s[i]))
	}
	return pieces.FindAllString(string(runes), -1)
}

// isRun reports whether a piece is a run of digits.
func isRun(p string) bool { return '0' <= p[0] && p[0] <= '9' }

// comparePieces compares two runs of digits, or bytes, or one of both.
func comparePieces(p, q string) int {
	switch {
	case isRun(p) && isRun(q):
		m, _ := new(big.Int).SetString(p, 10)
		n, _ := new(big.Int).SetString(q, 10)
		return m.Cmp(n)
	case isRun(p):
		return -1
	case isRun(q):
		return 1
	}
	return cmp.Compare([]rune(p)[0], []rune(q)[0])
}

// natural is the order by its definition.
func natural(a, b string) int {
	if n := slices.CompareFunc(piecesOf(a), piecesOf(b), comparePieces); n != 0 {
		return n
	}
	return cmp.Compare(a, b)
}

// allNames returns all strings of up to n of some bytes.
func allNames(alphabet string, n int) []string {
	var l []string
	words(alphabet, n, func(s string) { l = append(l, s) })
	return l
}

// P5.3: the order of all pairs of short strings, with bytes below, at the limits of, and above the digits.
func TestNaturalEveryShortString(t *testing.T) {
	for _, l := range [][]string{allNames("09 a", 4), allNames("01/:", 4), allNames("0123456789", 2), allNames("\x00/0:9\x7f\x80\xff", 3)} {
		l = slices.Compact(slices.Sorted(slices.Values(l)))
		for _, a := range l {
			for _, b := range l {
				if got, want := code.Natural(a, b), natural(a, b); got != want {
					t.Fatalf("%q %q %v", a, b, got)
				}
			}
		}
	}
}

// P5.3: long strings at random that begin with the same bytes.
func TestNaturalRandom(t *testing.T) {
	r := rand.New(rand.NewSource(7))
	text := func(n int) string {
		b := make([]byte, r.Intn(n+1))
		for i := range b {
			b[i] = "00019 a.\xe9"[r.Intn(9)]
		}
		return string(b)
	}
	for range 20000 {
		start := text(20)
		a, b := start+text(6), start+text(6)
		if got, want := code.Natural(a, b), natural(a, b); got != want {
			t.Fatalf("%q %q %v", a, b, got)
		}
	}
}

// P5.3: numbers of any size, and leading zeros, which decide last.
func TestNaturalNumbers(t *testing.T) {
	long := strings.Repeat("9", 5000)
	longer := "1" + strings.Repeat("0", 5000)
	zeros := strings.Repeat("0", 5000)
	for i, x := range []struct {
		a, b string
		want int
	}{
		{"A 9", "A 10", -1}, {"A 010", "A 10", -1}, {"7", "A", -1}, {"", "0", -1}, {"", "A", -1}, {"", "", 0},
		{long, longer, -1}, {zeros + long, longer, -1}, {zeros + longer, long, 1}, {zeros + long, long, -1}, {long, long, 0}, {long + "8", long + "9", -1},
		{"18446744073709551616", "0", 1}, {"18446744073709551617", "1", 1}, {"9223372036854775808", "9223372036854775807", 1},
		{"0", "00", -1}, {"00", "0", 1}, {zeros, "0", 1}, {zeros, "1", -1}, {"0a", "00", 1}, {"0a1", "00a0", 1}, {"0a", "00a", 1}, {"01 2", "1 02", -1},
		{"1a", "1 ", 1}, {"1 1", "1a", -1}, {"a1", "a\x00", -1}, {"a", "a0", -1}, {"a0", "ab", -1}, {"12", "1a", 1}, {"é", "z", 1},
	} {
		if got := code.Natural(x.a, x.b); got != x.want {
			t.Error(i, got)
		}
		if got := code.Natural(x.b, x.a); got != -x.want {
			t.Error(i, got)
		}
	}
}

// P5.3: Sort returns all strings, as often as they are there, in their order.
func TestSort(t *testing.T) {
	r := rand.New(rand.NewSource(11))
	for n := range 60 {
		l := make([]string, n)
		for i := range l {
			l[i] = allNames("019 b", 3)[r.Intn(156)]
		}
		want := slices.Clone(l)
		slices.SortFunc(want, natural)
		given := slices.Clone(l)
		got := code.Sort(l)
		if !slices.Equal(got, want) || !slices.Equal(l, given) {
			t.Fatal(n, got, want)
		}
		if n > 0 {
			got[0] = "changed"
			if !slices.Equal(l, given) {
				t.Fatal("the result shares memory with the argument")
			}
		}
	}
	if l := code.Sort(nil); len(l) != 0 {
		t.Error(l)
	}
}

// P5.4: of two different strings one is less, and what is less than something less is less.
func TestNaturalTotal(t *testing.T) {
	l := code.Sort(allNames("01 a", 4))
	l = slices.Compact(l)
	for i, a := range l {
		for k, b := range l {
			n := code.Natural(a, b)
			if (n < 0) != (i < k) || (n > 0) != (i > k) {
				t.Fatalf("%q %q %v", a, b, n)
			}
		}
	}
}
