package verdict

import (
	"cmp"
	"slices"

	"archivum/api"
	"archivum/file"
	"archivum/hold"
	"archivum/list"
	"archivum/number"
	"archivum/office"
	"archivum/plan"
	"archivum/rule"
)

// Check returns the first fault of a registry.
func Check(r api.Registry) api.Errno {
	return cmp.Or(
		checkFiles(r),
		errorOf(rule.Check(r.Rules)),
		errorOf(hold.Check(r.Holds)),
		checkEntries(r),
	)
}

// checkFiles checks the offices, the plan versions and the files of a registry.
func checkFiles(r api.Registry) api.Errno {
	e := errorOf(file.Check(r.Offices, r.Plans, r.Files))
	if e != api.ErrArg {
		return e
	}
	// No file has this error by itself. It takes long to check large plan versions, so they are not checked beforehand.
	return cmp.Or(errorOf(office.Check(r.Offices)), errorOf(plan.Check(r.Plans)))
}

func errorOf(_ int, e api.Errno) api.Errno { return e }

// checkEntries checks the selections, the certificates and the departures of a registry.
func checkEntries(r api.Registry) api.Errno {
	known, gone := map[int]bool{}, map[int]bool{}
	for _, f := range r.Files {
		known[f.ID] = true
	}
	check := func(before []entry, x entry) api.Errno { return checkEntry(known, before, x) }
	checkOnce := func(before []entry, x entry) api.Errno {
		if e := check(before, x); e != api.OK {
			return e
		}
		return leave(gone, x.files)
	}
	selections, certificates, departures := entriesOf(r)
	return cmp.Or(
		errorOf(list.Check(selections, api.MaxList, check)),
		errorOf(list.Check(certificates, api.MaxList, checkOnce)),
		errorOf(list.Check(departures, api.MaxList, checkOnce)),
	)
}

// entry is a selection, a certificate or a departure.
type entry struct {
	number, day int
	files       []int
}

func entriesOf(r api.Registry) (selections, certificates, departures []entry) {
	for _, s := range r.Selections {
		selections = append(selections, entry{s.Sample, s.Day, s.Files})
	}
	for _, c := range r.Certificates {
		certificates = append(certificates, entry{c.Number, c.Day, c.Files})
	}
	for _, d := range r.Departures {
		// A departure has no number that could be wrong.
		departures = append(departures, entry{1, d.Day, []int{d.File}})
	}
	return selections, certificates, departures
}

// checkEntry checks the entry that follows some others of its list.
func checkEntry(known map[int]bool, before []entry, x entry) api.Errno {
	switch {
	case !number.IsID(x.number) || !number.IsDay(x.day):
		return api.ErrRange
	case slices.ContainsFunc(x.files, func(id int) bool { return !known[id] }):
		return api.ErrNotFound
	case !list.Increase(x.files, cmp.Compare) || len(before) > 0 && x.day < before[len(before)-1].day:
		return api.ErrOrder
	}
	return api.OK
}

// leave adds files to those that are gone, unless one of them is gone already.
func leave(gone map[int]bool, files []int) api.Errno {
	for _, id := range files {
		if gone[id] {
			return api.ErrTwice
		}
		gone[id] = true
	}
	return api.OK
}
