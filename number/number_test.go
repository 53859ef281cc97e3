package number_test

import (
	"math"
	"math/rand"
	"regexp"
	"strconv"
	"strings"
	"testing"

	"archivum/api"
	"archivum/number"
)

// P1, P9.1, P10.1: what is from one number to another one, at both limits and beyond them.
func TestFrom(t *testing.T) {
	for _, x := range []struct {
		n, least, greatest int
		want               bool
	}{
		{2, 3, 5, false},
		{3, 3, 5, true},
		{5, 3, 5, true},
		{6, 3, 5, false},
		{4, 4, 4, true},
		{4, 5, 3, false},
		{math.MinInt, 0, 5, false},
		{math.MaxInt, 0, 5, false},
		{0, math.MinInt, math.MaxInt, true},
	} {
		if got := number.From(x.n, x.least, x.greatest); got != x.want {
			t.Error(x, got)
		}
	}
}

// P9.1, P10.1: IDs are integers from 1 to MaxID.
func TestIsID(t *testing.T) {
	for n, want := range map[int]bool{
		math.MinInt: false, -1: false, 0: false, 1: true, 2: true, api.MaxID: true, api.MaxID + 1: false, math.MaxInt: false,
	} {
		if got := number.IsID(n); got != want {
			t.Error(n, got)
		}
	}
}

// P2, P9.2: each number from 0 to MaxID has one text, which is decimal and has no leading zeros.
func TestParse(t *testing.T) {
	for _, n := range []int{0, 1, 9, 10, 99, 100, 1 << 16, api.MaxID - 1, api.MaxID} {
		if got, ok := number.Parse(strconv.Itoa(n)); got != n || !ok {
			t.Error(n, got, ok)
		}
	}
	for _, text := range []string{
		"", " ", "-", "+", "-0", "+0", "-1", "+1", "00", "01", "007", " 1", "1 ", "1\n", "1.0", "1e3", "0x1", "1_000", "a", "1a", "\xff", "\u0663",
		strconv.Itoa(api.MaxID + 1), strconv.Itoa(math.MinInt), strconv.Itoa(math.MaxInt), strings.Repeat("9", 19), strings.Repeat("1", 1000),
	} {
		if got, ok := number.Parse(text); got != 0 || ok {
			t.Errorf("%q %v %v", text, got, ok)
		}
	}
}

// P2, P9.2: the same, for many short strings.
func TestParseStrings(t *testing.T) {
	form := regexp.MustCompile(`^(0|[1-9][0-9]*)$`)
	r := rand.New(rand.NewSource(9))
	for range 20000 {
		text := ""
		for range r.Intn(12) {
			text += string("01234567899999-+ ."[r.Intn(18)])
		}
		want, _ := strconv.ParseInt(text, 10, 64)
		valid := form.MatchString(text) && want <= api.MaxID
		if !valid {
			want = 0
		}
		if got, ok := number.Parse(text); got != int(want) || ok != valid {
			t.Errorf("%q %v %v", text, got, ok)
		}
	}
}

// P15.1, P16.1: days are integers from 0 to MaxDay.
func TestIsDay(t *testing.T) {
	for n, want := range map[int]bool{
		math.MinInt: false, -1: false, 0: true, 1: true, api.MaxDay: true, api.Forever: false, api.Forever + 1: false, math.MaxInt: false,
	} {
		if got := number.IsDay(n); got != want {
			t.Error(n, got)
		}
	}
}

// P16.4: each number of up to ten digits has one text, which is decimal and has no leading zeros.
func TestDecimal(t *testing.T) {
	for _, n := range []int{0, 1, 9, 10, 99, 100, api.MaxID, api.MaxID + 1, 1 << 32, 9999999999} {
		if got, ok := number.Decimal(strconv.Itoa(n)); got != n || !ok {
			t.Error(n, got, ok)
		}
	}
	form := regexp.MustCompile(`^(0|[1-9][0-9]{0,9})$`)
	r := rand.New(rand.NewSource(10))
	for range 20000 {
		text := ""
		for range r.Intn(13) {
			text += string("01234567899999-+ ._"[r.Intn(19)])
		}
		want, valid := 0, form.MatchString(text)
		if valid {
			want, _ = strconv.Atoi(text)
		}
		if got, ok := number.Decimal(text); got != want || ok != valid {
			t.Errorf("%q %v %v", text, got, ok)
		}
	}
	for _, text := range []string{"", "10000000000", "00000000001", strings.Repeat("9", 19), strings.Repeat("9", 1000), "-1", "+1", "-0", "0_0", "\u0663"} {
		if got, ok := number.Decimal(text); got != 0 || ok {
			t.Errorf("%q %v %v", text, got, ok)
		}
	}
}
