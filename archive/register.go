package archive

import (
	"cmp"
	"slices"

	"aneroid/api"
)

// SheetOf returns the sheet that is filed under a station and a week.
func SheetOf(r api.Register, station, week int) (int, api.Errno) {
	return found(slices.IndexFunc(r.Sheets, func(f api.Filed) bool { return f.Station == station && f.Week == week }))
}

// SheetBy returns the sheet of a note.
func SheetBy(r api.Register, n api.Name) (int, api.Errno) {
	return found(slices.IndexFunc(r.Sheets, func(f api.Filed) bool { return f.Name == n }))
}

// found returns an index, or ErrNone, if it is -1.
func found(i int) (int, api.Errno) {
	if i < 0 {
		return 0, api.ErrNone
	}
	return i, api.OK
}

// ReadsOf returns the readings of a station and a week.
func ReadsOf(r api.Register, station, week int) ([]int, api.Errno) {
	var l []int
	for i, read := range r.Reads {
		if read.Station == station && read.Week == week {
			l = append(l, i)
		}
	}
	return l, api.OK
}

// StationOf returns a station with all its heights.
func StationOf(b api.Base, r api.Register, id int) (api.Station, api.Errno) {
	if e := CheckBase(b); e != api.OK {
		return api.Station{}, e
	}
	for _, l := range [][]api.Station{r.Stations, b.Stations} {
		for _, s := range l {
			if s.ID == id {
				return copyStation(s), api.OK
			}
		}
	}
	return api.Station{}, api.ErrNone
}

// Weeks returns the weeks with sheets or readings.
func Weeks(r api.Register) ([]int, api.Errno) {
	var l []int
	for _, f := range r.Sheets {
		l = append(l, f.Week)
	}
	for _, read := range r.Reads {
		l = append(l, read.Week)
	}
	slices.Sort(l)
	return slices.Compact(l), api.OK
}

// WeekOf returns a week.
func WeekOf(b api.Base, r api.Register, week int) (api.Week, api.Errno) {
	if e := CheckBase(b); e != api.OK {
		return api.Week{}, e
	}
	if !isWeek(week) {
		return api.Week{}, api.ErrArg
	}
	sheets := chosen(r.Sheets, func(f api.Filed) bool { return f.Week == week })
	reads := chosen(r.Reads, func(read api.Read) bool { return read.Week == week })
	if len(sheets) > api.MaxSheets || len(reads) > api.MaxReads {
		return api.Week{}, api.ErrLimit
	}
	slices.SortStableFunc(sheets, func(x, y api.Filed) int { return cmp.Compare(x.Station, y.Station) })
	b.Stations = copyEach(r.Stations, copyStation)
	return api.Week{Base: b, Week: week, Sheets: copyEach(sheets, copyFiled), Reads: reads}, api.OK
}

// chosen returns the elements of a list that are wanted, in order.
func chosen[E any](l []E, wanted func(E) bool) []E {
	var some []E
	for _, x := range l {
		if wanted(x) {
			some = append(some, x)
		}
	}
	return some
}
