package sample

import (
	"cmp"
	"maps"
	"slices"

	"archivum/api"
	"archivum/code"
	"archivum/fate"
	"archivum/number"
)

const maxCount = 1 << 20

// Quotas divides a number among classes in proportion to how many files they have.
func Quotas(n int, counts []int) ([]int, api.Errno) {
	if len(counts) > api.MaxClasses {
		return nil, api.ErrTooLarge
	}
	sum := 0
	for _, c := range counts {
		if !number.From(c, 0, maxCount) {
			return nil, api.ErrRange
		}
		sum += c
	}
	if !number.From(n, 0, sum) {
		return nil, api.ErrRange
	}
	return quotas(n, sum, counts), api.OK
}

// quotas divides a number in proportion to some counts with a sum, which is not less.
func quotas(n, sum int, counts []int) []int {
	shares, rests, places := make([]int, len(counts)), make([]int, len(counts)), make([]int, len(counts))
	left := n
	for i, c := range counts {
		// If the sum is 0, there is nothing to divide.
		shares[i], rests[i], places[i] = n*c/max(sum, 1), n*c%max(sum, 1), i
		left -= shares[i]
	}
	slices.SortStableFunc(places, func(i, k int) int { return cmp.Compare(rests[k], rests[i]) })
	for _, i := range places[:left] {
		shares[i]++
	}
	return shares
}

// Strata selects so many files from each class that has files.
func Strata(r api.Registry, class, seed string, n, day int) ([]int, api.Errno) {
	if !code.Name(seed) {
		return nil, api.ErrName
	}
	files, e := candidates(r, class, day)
	switch {
	case e != api.OK:
		return nil, e
	case !number.From(n, 0, len(files)):
		return nil, api.ErrRange
	}
	strata := divide(files, func(f api.File) string { return fate.Class(r, f, day) })
	// There are no more strata than classes, and no more files than counts can say.
	shares, _ := Quotas(n, sizesOf(strata))
	var drawn []api.File
	for i, share := range shares {
		drawn = append(drawn, draw(strata[i], seed, share)...)
	}
	return idsOf(drawn), api.OK
}

// divide divides files by the classes that a function returns, in the order of these.
func divide(files []api.File, classOf func(f api.File) string) [][]api.File {
	strata := map[string][]api.File{}
	for _, f := range files {
		class := classOf(f)
		strata[class] = append(strata[class], f)
	}
	var ordered [][]api.File
	for _, class := range slices.SortedFunc(maps.Keys(strata), compareCodes) {
		ordered = append(ordered, strata[class])
	}
	return ordered
}

func compareCodes(a, b string) int {
	n, _ := code.Compare(a, b)
	return n
}

func sizesOf(strata [][]api.File) []int {
	var sizes []int
	for _, l := range strata {
		sizes = append(sizes, len(l))
	}
	return sizes
}
