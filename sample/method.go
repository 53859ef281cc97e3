package sample

import (
	"cmp"
	"slices"
	"strings"

	"archivum/api"
	"archivum/code"
	"archivum/list"
	"archivum/number"
)

const maxPoints = 100

// method says which N, Start and Seed the appraisals by a method can have, and which of the candidates they select.
type method struct {
	admits func(n, start int) bool
	isSeed func(seed string) bool
	choose func(s api.Sample, files []api.File) []api.File
}

// methods returns the methods, each one at its number; none has the number 0.
func methods() [api.SamplePoints + 1]method {
	isEmpty := func(seed string) bool { return seed == "" }
	return [...]method{
		api.SampleEvery: {
			admits: func(n, start int) bool { return number.From(n, 1, api.MaxFiles) && number.From(start, 0, n-1) },
			isSeed: isEmpty,
			choose: chooseEvery,
		},
		api.SampleDigest: {
			admits: upTo(api.MaxFiles),
			isSeed: code.Name,
			choose: func(s api.Sample, files []api.File) []api.File { return draw(files, s.Seed, s.N) },
		},
		api.SampleLetter: {
			admits: upTo(0),
			isSeed: isLetters,
			choose: chooseLetters,
		},
		api.SamplePoints: {
			admits: upTo(maxPoints),
			isSeed: isEmpty,
			choose: choosePoints,
		},
	}
}

// upTo returns the function that admits the numbers up to the greatest one as N, and no Start.
func upTo(greatest int) func(n, start int) bool {
	return func(n, start int) bool { return number.From(n, 0, greatest) && start == 0 }
}

// isLetters returns whether a string has letters from A to Z, which increase strictly.
func isLetters(s string) bool {
	return s != "" && 'A' <= s[0] && s[len(s)-1] <= 'Z' && list.Increase([]byte(s), cmp.Compare)
}

func chooseEvery(s api.Sample, files []api.File) []api.File {
	var l []api.File
	for i := s.Start; i < len(files); i += s.N {
		l = append(l, files[i])
	}
	return l
}

func chooseLetters(s api.Sample, files []api.File) []api.File {
	return filter(files, func(f api.File) bool { return strings.Contains(s.Seed, strings.ToUpper(f.Title[:1])) })
}

func choosePoints(s api.Sample, files []api.File) []api.File {
	return filter(files, func(f api.File) bool { return f.Points >= s.N })
}

// filter returns those files for which a function returns true.
func filter(files []api.File, wanted func(f api.File) bool) []api.File {
	return slices.DeleteFunc(slices.Clone(files), func(f api.File) bool { return !wanted(f) })
}

// draw returns the n files with the least scores; all, if there are fewer.
func draw(files []api.File, seed string, n int) []api.File {
	scores := make(map[int]string, len(files))
	for _, f := range files {
		scores[f.ID], _ = Score(seed, f.ID)
	}
	sorted := slices.SortedStableFunc(slices.Values(files), func(a, b api.File) int {
		return strings.Compare(scores[a.ID], scores[b.ID])
	})
	return sorted[:min(n, len(sorted))]
}
