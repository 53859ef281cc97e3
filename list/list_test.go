package list_test

import (
	"cmp"
	"slices"
	"testing"

	"archivum/api"
	"archivum/list"
)

// P8.1, P9.1, P10.1: the first element with a fault counts, and ahead of all the number of elements.
func TestCheck(t *testing.T) {
	errors := func(before []api.Errno, e api.Errno) api.Errno { return e }
	for i, x := range []struct {
		l    []api.Errno
		most int
		at   int
		e    api.Errno
	}{
		{nil, 0, -1, api.OK},
		{[]api.Errno{}, 0, -1, api.OK},
		{[]api.Errno{api.OK}, 0, -1, api.ErrTooLarge},
		{[]api.Errno{api.OK}, 1, -1, api.OK},
		{[]api.Errno{api.ErrName}, 1, 0, api.ErrName},
		{[]api.Errno{api.ErrName}, 0, -1, api.ErrTooLarge},
		{[]api.Errno{api.OK, api.ErrName, api.ErrArg}, 3, 1, api.ErrName},
		{[]api.Errno{api.OK, api.OK, api.ErrArg}, 9, 2, api.ErrArg},
		{[]api.Errno{api.OK, api.OK, api.ErrArg}, 2, -1, api.ErrTooLarge},
	} {
		if at, e := list.Check(x.l, x.most, errors); at != x.at || e != x.e {
			t.Error(i, at, e)
		}
	}
}

// P8.1, P9.1, P10.1: each element is checked once, with those before it, up to the first fault.
func TestCheckBefore(t *testing.T) {
	l := []int{4, 6, 7, 9}
	var seen []int
	at, e := list.Check(l, len(l), func(before []int, n int) api.Errno {
		if !slices.Equal(before, l[:len(seen)]) {
			t.Error(n, before)
		}
		seen = append(seen, n)
		if n == 7 {
			return api.ErrGap
		}
		return api.OK
	})
	if at != 2 || e != api.ErrGap || !slices.Equal(seen, l[:3]) {
		t.Error(at, e, seen)
	}
}

// P7.1, P11.1: each element is greater than the one before.
func TestIncrease(t *testing.T) {
	for i, x := range []struct {
		l    []int
		want bool
	}{
		{nil, true},
		{[]int{5}, true},
		{[]int{5, 6}, true},
		{[]int{5, 5}, false},
		{[]int{6, 5}, false},
		{[]int{-3, 0, 9, 10}, true},
		{[]int{-3, 0, 0, 10}, false},
		{[]int{1, 2, 3, 3}, false},
		{[]int{2, 1, 3, 4}, false},
	} {
		if got := list.Increase(x.l, cmp.Compare); got != x.want {
			t.Error(i, got)
		}
	}
}
