// Package list checks lists whose elements are checked one after the other.
package list

import "archivum/api"

// Check returns the index and the error of the first element that is wrong; a function checks each one, and is given those before it, too.
func Check[T any](l []T, most int, checkNext func(before []T, x T) api.Errno) (int, api.Errno) {
	if len(l) > most {
		return -1, api.ErrTooLarge
	}
	for i, x := range l {
		if e := checkNext(l[:i], x); e != api.OK {
			return i, e
		}
	}
	return -1, api.OK
}
