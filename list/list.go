// Package list checks lists: their elements, one after the other, and their order.
package list

import "archivum/api"

// Check returns the index and the error of the first element that is wrong; a function checks each one, and is given those before it, too.
func Check[T any](l []T, most int, checkNext func(before []T, x T) api.Errno) (int, api.Errno) {
	if len(l) > most {
		return -1, api.ErrTooLarge
	}
	for i, x := range l {
		if e := checkNext(l[:i], x); e != api.OK {
			return i, e
		}
	}
	return -1, api.OK
}

// Increase returns whether the elements of a list increase strictly.
func Increase[T any](l []T, compare func(a, b T) int) bool {
	for i := 1; i < len(l); i++ {
		if compare(l[i-1], l[i]) >= 0 {
			return false
		}
	}
	return true
}
