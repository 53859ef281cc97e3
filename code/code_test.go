package code_test

import (
	"fmt"
	"math"
	"math/rand"
	"regexp"
	"slices"
	"strconv"
	"strings"
	"testing"

	"archivum/api"
	"archivum/code"
)

// form is what a class code looks like.
var form = regexp.MustCompile(`^[1-9][0-9]{0,2}(\.[1-9][0-9]{0,2}){0,5}$`)

// words calls see with all strings of up to n of some bytes.
func words(alphabet string, n int, see func(s string)) {
	see("")
	if n == 0 {
		return
	}
	for i := range len(alphabet) {
		words(alphabet, n-1, func(s string) { see(alphabet[i:i+1] + s) })
	}
}

// someCodes returns codes of all lengths with numbers at the limits and where the number of digits changes.
func someCodes() []string {
	numbers := []string{"1", "2", "9", "10", "11", "99", "100", "999"}
	codes := slices.Clone(numbers)
	for _, a := range numbers {
		for _, b := range numbers[:5] {
			codes = append(codes, a+"."+b, a+"."+b+".7", b+".1."+a, b+"."+a+".3.10.2", "1.1.1.1."+b+"."+a)
		}
	}
	slices.Sort(codes)
	return slices.Compact(codes)
}

// numbersOf returns the numbers of a text with dots, without a check.
func numbersOf(s string) []int {
	var l []int
	for _, text := range strings.Split(s, ".") {
		n, _ := strconv.Atoi(text)
		l = append(l, n)
	}
	return l
}

// notCodes are strings that are close to class codes.
func notCodes() []string {
	return []string{
		"", ".", "..", "1.", ".1", "1..2", "0", "00", "01", "1.0", "1.01", "1.00", "1000", "1.1000", "9999999999999999999999", "18446744073709551617",
		"1.1.1.1.1.1.1", "1.1.1.1.1.1.", "1.1.1.1.1.1.x", "a", "1.a", "a.1", " 1", "1 ", "1. 2", "-1", "+1", "1.+1", "1_0", "0x1", "1,2", "1\n", "1\x00", "\xb2", "\u0661",
		strings.Repeat("1", 4096), strings.Repeat("1.", 4096) + "1",
	}
}

// P5.1: Parse takes exactly the strings of the form of class codes, and returns their numbers; Format returns the string again.
func TestParseEveryShortString(t *testing.T) {
	words("019.-", 6, func(s string) {
		l, e := code.Parse(s)
		if !form.MatchString(s) {
			if len(l) != 0 || e != api.ErrSyntax {
				t.Fatal(s, l, e)
			}
			return
		}
		if e != api.OK || !slices.Equal(l, numbersOf(s)) {
			t.Fatal(s, l, e)
		}
		if again, e := code.Format(l); again != s || e != api.OK {
			t.Fatal(s, again, e)
		}
	})
}

// P5.1: codes with all admitted numbers of numbers, and each number up to a limit.
func TestParseNumbers(t *testing.T) {
	for n := 1; n <= 1100; n++ {
		s := strconv.Itoa(n)
		for _, x := range []struct {
			s string
			l []int
		}{{s, []int{n}}, {"7." + s, []int{7, n}}, {s + ".8", []int{n, 8}}, {"1.2.3.4.5." + s, []int{1, 2, 3, 4, 5, n}}} {
			l, e := code.Parse(x.s)
			text, f := code.Format(x.l)
			if n <= api.MaxPart && (e != api.OK || f != api.OK || !slices.Equal(l, x.l) || text != x.s) {
				t.Error(x.s, l, e, text, f)
			}
			if n > api.MaxPart && (e != api.ErrSyntax || f != api.ErrRange || len(l) != 0 || text != "") {
				t.Error(x.s, l, e, text, f)
			}
		}
	}
}

// P5.1: what is no class code.
func TestParseInvalid(t *testing.T) {
	for _, s := range notCodes() {
		if l, e := code.Parse(s); len(l) != 0 || e != api.ErrSyntax {
			t.Errorf("%.20q %v %v", s, l, e)
		}
	}
}

// P5.1: Format takes from 1 to 6 numbers from 1 to 999.
func TestFormat(t *testing.T) {
	for i, x := range []struct {
		l    []int
		want string
		e    api.Errno
	}{
		{[]int{1}, "1", api.OK}, {[]int{999, 1, 999, 10, 100, 999}, "999.1.999.10.100.999", api.OK},
		{nil, "", api.ErrRange}, {[]int{}, "", api.ErrRange}, {[]int{0}, "", api.ErrRange}, {[]int{-1}, "", api.ErrRange}, {[]int{1000}, "", api.ErrRange},
		{[]int{1, 0}, "", api.ErrRange}, {[]int{1, 2, 3, 4, 5, 1000}, "", api.ErrRange}, {[]int{1, 2, 3, 4, 5, 6, 7}, "", api.ErrRange}, {make([]int, 100), "", api.ErrRange},
		{[]int{math.MinInt}, "", api.ErrRange}, {[]int{3, math.MaxInt}, "", api.ErrRange},
	} {
		if s, e := code.Format(x.l); s != x.want || e != x.e {
			t.Error(i, s, e)
		}
	}
}

// P5.1: the parent is the code without the last number, which the other numbers and this one make again.
func TestParent(t *testing.T) {
	for _, s := range someCodes() {
		l := numbersOf(s)
		parent, ok := code.Parent(s)
		if len(l) == 1 {
			if parent != "" || ok {
				t.Error(s, parent, ok)
			}
			continue
		}
		if !ok || parent+"."+strconv.Itoa(l[len(l)-1]) != s {
			t.Error(s, parent, ok)
		}
	}
	for _, s := range append(notCodes(), "1.x", "x.1", "1.1000", "1000.1") {
		if parent, ok := code.Parent(s); parent != "" || ok {
			t.Errorf("%.20q %.20q", s, parent)
		}
	}
}

// order is what two codes are to each other by their definition: the first number that is different decides, then the length.
func order(a, b string) int {
	l, m := numbersOf(a), numbersOf(b)
	for i := 0; i < len(l) && i < len(m); i++ {
		if l[i] < m[i] {
			return -1
		}
		if l[i] > m[i] {
			return 1
		}
	}
	switch {
	case len(l) < len(m):
		return -1
	case len(l) > len(m):
		return 1
	}
	return 0
}

// P5.2: Compare and Within for all pairs of some codes.
func TestCompareWithin(t *testing.T) {
	codes := someCodes()
	for _, a := range codes {
		for _, b := range codes {
			if n, e := code.Compare(a, b); n != order(a, b) || e != api.OK {
				t.Fatal(a, b, n, e)
			}
			if got, want := code.Within(a, b), strings.HasPrefix(a+".", b+"."); got != want {
				t.Fatal(a, b, got)
			}
		}
	}
}

// P5.2: the examples of the chapter.
func TestExamples(t *testing.T) {
	if n, e := code.Compare("3.12.1", "3.2.9"); n != 1 || e != api.OK {
		t.Error(n, e)
	}
	if n, e := code.Compare("3.12.1", "3.12.1.1"); n != -1 || e != api.OK {
		t.Error(n, e)
	}
	if s, e := code.Free([]string{"3.1", "3.3"}, "3"); s != "3.2" || e != api.OK {
		t.Error(s, e)
	}
}

// P5.2: Compare and Within if one of both, or both, are no codes.
func TestCompareWithinInvalid(t *testing.T) {
	for _, s := range notCodes() {
		for _, pair := range [][2]string{{s, "1"}, {"1", s}, {s, s}, {s, "1.1.1.1.1.1"}, {"1.1.1.1.1.1", s}} {
			if n, e := code.Compare(pair[0], pair[1]); n != 0 || e != api.ErrSyntax {
				t.Errorf("%.20q %v %v", pair, n, e)
			}
			if code.Within(pair[0], pair[1]) {
				t.Errorf("%.20q", pair)
			}
		}
	}
}

// children returns the codes with the numbers from 1 to n below a code, in another order.
func children(above string, n int) []string {
	l := make([]string, n)
	for i := range l {
		l[i] = above + strconv.Itoa(i+1)
	}
	rand.New(rand.NewSource(5)).Shuffle(n, func(i, k int) { l[i], l[k] = l[k], l[i] })
	return l
}

// without returns a list without an element.
func without(l []string, s string) []string {
	return slices.DeleteFunc(slices.Clone(l), func(other string) bool { return other == s })
}

// P5.2: the code with the least last number, wherever the gap is.
func TestFree(t *testing.T) {
	for _, x := range []struct{ above, prefix string }{{"", ""}, {"3", "3."}, {"3.14", "3.14."}, {"1.2.3.4.5", "1.2.3.4.5."}} {
		all := children(x.prefix, api.MaxPart)
		if s, e := code.Free(all, x.above); s != "" || e != api.ErrFull {
			t.Error(x.above, s, e)
		}
		for _, n := range []int{1, 2, 9, 10, 500, 998, 999} {
			want := x.prefix + strconv.Itoa(n)
			if s, e := code.Free(without(all, want), x.above); s != want || e != api.OK {
				t.Error(x.above, n, s, e)
			}
			if s, e := code.Free(children(x.prefix, n-1), x.above); s != want || e != api.OK {
				t.Error(x.above, n, s, e)
			}
		}
		if s, e := code.Free(nil, x.above); s != x.prefix+"1" || e != api.OK {
			t.Error(x.above, s, e)
		}
	}
}

// P5.2: only codes with above as their parent take a number, and how often a code is in the list does not matter.
func TestFreeOthers(t *testing.T) {
	for _, x := range []struct {
		taken       []string
		above, want string
	}{
		{[]string{"1", "2"}, "3", "3.1"},
		{[]string{"3.1.1", "3.1.2"}, "3", "3.1"},
		{[]string{"3.1.1"}, "", "1"},
		{[]string{"3", "4.1", "33.1", "3.2"}, "3", "3.1"},
		{[]string{"3.1", "3.1", "3.1", "3.3"}, "3", "3.2"},
		{[]string{"1.1", "1.1.1"}, "1.1", "1.1.2"},
	} {
		if s, e := code.Free(x.taken, x.above); s != x.want || e != api.OK {
			t.Error(x.taken, x.above, s, e)
		}
	}
}

// P5.2: the errors of Free in their order.
func TestFreeErrors(t *testing.T) {
	full := children("", api.MaxPart)
	many := slices.Repeat([]string{"1"}, api.MaxList)
	bad := append(slices.Clone(many), "x")
	for i, x := range []struct {
		taken []string
		above string
		want  string
		e     api.Errno
	}{
		{many, "", "2", api.OK},
		{append(slices.Clone(many), "1"), "", "", api.ErrTooLarge},
		{bad, "y", "", api.ErrTooLarge},
		{append(slices.Clone(full), "x"), "", "", api.ErrSyntax},
		{append([]string{""}, full...), "", "", api.ErrSyntax},
		{full, "x", "", api.ErrSyntax},
		{[]string{"x"}, "1.1.1.1.1.1", "", api.ErrSyntax},
		{nil, "1.1.1.1.1.1", "", api.ErrFull},
		{nil, "1.1.1.1.1.1.1", "", api.ErrSyntax},
		{full, "", "", api.ErrFull},
		{full, "1.1.1.1.1", "1.1.1.1.1.1", api.OK},
		{nil, " ", "", api.ErrSyntax},
		{nil, "1.", "", api.ErrSyntax},
	} {
		if s, e := code.Free(x.taken, x.above); s != x.want || e != x.e {
			t.Error(i, s, e)
		}
	}
	for _, s := range notCodes() {
		if got, e := code.Free([]string{"1", s}, "1"); got != "" || e != api.ErrSyntax {
			t.Errorf("%.20q %v %v", s, got, e)
		}
	}
}

// P5.3: Name for all short strings of blanks and other bytes.
func TestNameEveryShortString(t *testing.T) {
	name := regexp.MustCompile(`\A[!-~]+( [!-~]+)*\z`)
	words(" !~\x1f\x7fA", 5, func(s string) {
		if code.Name(s) != name.MatchString(s) {
			t.Errorf("%q", s)
		}
	})
}

// P5.3: each byte alone and between others, and the greatest length.
func TestNameBytes(t *testing.T) {
	for b := range 256 {
		s := string([]byte{byte(b)})
		if got, want := code.Name(s), b > 32 && b < 127; got != want {
			t.Error(b, got)
		}
		if got, want := code.Name("a"+s+"b"), b >= 32 && b < 127; got != want {
			t.Error(b, got)
		}
	}
	for _, x := range []struct {
		s    string
		want bool
	}{
		{strings.Repeat("a", api.MaxName), true},
		{strings.Repeat("a", api.MaxName+1), false},
		{strings.Repeat("a ", 31) + "aa", true},
		{strings.Repeat("a ", 32) + "a", false},
		{strings.Repeat("a ", 32), false},
		{"M\u00fcller", false},
		{strings.Repeat("a", 1<<20), false},
	} {
		if got := code.Name(x.s); got != x.want {
			t.Errorf("%.20q %v", x.s, got)
		}
	}
}

// P5.4: codes and lists of numbers belong to each other one to one.
func TestOneToOne(t *testing.T) {
	codes := map[string]string{}
	for _, a := range []int{1, 2, 11, 12, 112, 999} {
		for _, b := range []int{0, 1, 2, 11, 12, 112, 999} {
			for _, c := range []int{0, 1, 2, 12, 111} {
				l := slices.DeleteFunc([]int{a, b, c}, func(n int) bool { return n == 0 })
				s, e := code.Format(l)
				again, f := code.Parse(s)
				if e != api.OK || f != api.OK || !slices.Equal(again, l) {
					t.Error(l, s, e, again, f)
				}
				if other, ok := codes[s]; ok && other != fmt.Sprint(l) {
					t.Error(s, l, other)
				}
				codes[s] = fmt.Sprint(l)
			}
		}
	}
}

// P5.4: the order is total, a parent is less than its code, and what is between a code and one within it is within it, too.
func TestOrderOfCodes(t *testing.T) {
	codes := someCodes()
	slices.SortFunc(codes, func(a, b string) int {
		n, _ := code.Compare(a, b)
		return n
	})
	for i, a := range codes {
		last := i
		for k, b := range codes {
			n, e := code.Compare(a, b)
			if e != api.OK || (n < 0) != (i < k) || (n > 0) != (i > k) {
				t.Fatal(a, b, n, e)
			}
			if code.Within(b, a) {
				if k > last+1 || k < i {
					t.Fatal(a, b, "is not beside the others within it")
				}
				last = k
			}
		}
		if parent, ok := code.Parent(a); ok {
			if n, e := code.Compare(parent, a); n != -1 || e != api.OK || !code.Within(a, parent) {
				t.Fatal(parent, a, n, e)
			}
		}
	}
}

// P5.1, P5.2: arguments are not modified, and the numbers are newly allocated.
func TestArguments(t *testing.T) {
	numbers := make([]int, 2, 10)
	copy(numbers, []int{3, 4})
	if s, e := code.Format(numbers); s != "3.4" || e != api.OK || !slices.Equal(numbers[:10], []int{3, 4, 0, 0, 0, 0, 0, 0, 0, 0}) {
		t.Error(s, e, numbers[:10])
	}
	taken := []string{"2", "1", "5"}
	if s, e := code.Free(taken, ""); s != "3" || e != api.OK || !slices.Equal(taken, []string{"2", "1", "5"}) {
		t.Error(s, e, taken)
	}
	l, _ := code.Parse("3.4")
	l[0] = 9
	if m, e := code.Parse("3.4"); !slices.Equal(m, []int{3, 4}) || e != api.OK {
		t.Error(m, e)
	}
}
