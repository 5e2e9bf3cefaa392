package paper

import (
	"slices"

	"aneroid/api"
)

// maxLines is the greatest number of spans of a column.
const maxLines = 8

// Ink returns what a sheet shows.
func Ink(p api.Paper, l []api.Point, blots []int) (api.Inked, api.Errno) {
	if e := CheckPaper(p); e != api.OK {
		return api.Inked{}, e
	}
	if e, _ := CheckTrace(l); e != api.OK {
		return api.Inked{}, e
	}
	if !areBlots(p, blots) {
		return api.Inked{}, api.ErrArg
	}
	columns := make([]column, p.Columns)
	for _, c := range blots {
		columns[c].blotted = true
	}
	for _, t := range l {
		trace(p, t, columns)
	}
	return sheet(columns)
}

// trace adds what a point means to the columns that are not blotted.
func trace(p api.Paper, t api.Point, columns []column) {
	reached, ok := columnsOf(p, t)
	if !ok {
		return
	}
	for c := reached.Lo; c <= reached.Hi; c++ {
		if columns[c].blotted {
			continue
		}
		for heights := range heightsIn(p, t, c) {
			columns[c].add(levelsOf(p, heights))
		}
	}
}

func areBlots(p api.Paper, blots []int) bool {
	last := -1
	for _, c := range blots {
		if !between(c, last+1, p.Columns-1) {
			return false
		}
		last = c
	}
	return true
}

// CheckInked returns OK if an inked sheet is valid.
func CheckInked(x api.Inked) api.Errno {
	if !between(len(x.Columns), 1, api.MaxColumns) {
		return api.ErrInk
	}
	for _, spans := range x.Columns {
		if len(spans) > maxLines || !isSet(spans) {
			return api.ErrInk
		}
	}
	return api.OK
}

// Gaps returns the columns that show nothing.
func Gaps(x api.Inked) ([]int, api.Errno) {
	return columnsWith(x, func(lines int) bool { return lines == 0 })
}

// Crossings returns the columns in which lines cross.
func Crossings(x api.Inked) ([]int, api.Errno) {
	return columnsWith(x, func(lines int) bool { return lines > 1 })
}

// columnsWith returns the columns of which the number of spans is as wanted.
func columnsWith(x api.Inked, wanted func(lines int) bool) ([]int, api.Errno) {
	if e := CheckInked(x); e != api.OK {
		return nil, e
	}
	var found []int
	for c, spans := range x.Columns {
		if wanted(len(spans)) {
			found = append(found, c)
		}
	}
	return found, api.OK
}

// Both returns what two copies of a sheet show together.
func Both(a, b api.Inked) (api.Inked, api.Errno) {
	columns, e := compare(a, b, comparison[column]{rule: both})
	if e != api.OK {
		return api.Inked{}, e
	}
	x, e := sheet(columns)
	if e != api.OK {
		return api.Inked{}, e
	}
	for c, spans := range x.Columns {
		if len(spans) == 0 && len(a.Columns[c]) > 0 {
			return api.Inked{}, api.ErrNone
		}
	}
	return x, api.OK
}

// Either returns what one of two copies shows.
func Either(a, b api.Inked) (api.Inked, api.Errno) {
	columns, e := compare(a, b, comparison[column]{rule: either})
	if e != api.OK {
		return api.Inked{}, e
	}
	return sheet(columns)
}

// Within reports whether one copy shows no more than another one.
func Within(a, b api.Inked) (bool, api.Errno) {
	columns, e := compare(a, b, comparison[bool]{rule: excludes})
	if e != api.OK {
		return false, e
	}
	return !slices.Contains(columns, false), api.OK
}

// A comparison has the rule by which two sheets are compared in a column.
type comparison[T any] struct {
	rule func(a, b []api.Span) T
}

// compare returns what a comparison makes of each column of two alike sheets.
func compare[T any](a, b api.Inked, by comparison[T]) ([]T, api.Errno) {
	for _, x := range []api.Inked{a, b} {
		if e := CheckInked(x); e != api.OK {
			return nil, e
		}
	}
	if len(a.Columns) != len(b.Columns) {
		return nil, api.ErrArg
	}
	compared := make([]T, len(a.Columns))
	for c := range compared {
		compared[c] = by.rule(a.Columns[c], b.Columns[c])
	}
	return compared, api.OK
}

// both returns the levels of both sets, or those of one where the other shows nothing.
func both(a, b []api.Span) column {
	if len(a) == 0 || len(b) == 0 {
		return joined(a, b)
	}
	var x column
	for _, s := range a {
		for _, t := range b {
			if lo, hi := max(s.Lo, t.Lo), min(s.Hi, t.Hi); lo <= hi {
				x.add(api.Span{Lo: lo, Hi: hi})
			}
		}
	}
	return x
}

// either returns the levels of one of two sets, or nothing where one shows nothing.
func either(a, b []api.Span) column {
	if len(a) == 0 || len(b) == 0 {
		return column{}
	}
	return joined(a, b)
}

// joined returns the levels of two sets.
func joined(a, b []api.Span) column {
	var x column
	for _, s := range a {
		x.add(s)
	}
	for _, s := range b {
		x.add(s)
	}
	return x
}

// excludes reports whether a set excludes all that another one does.
func excludes(a, b []api.Span) bool {
	if len(b) == 0 {
		return true
	}
	// Between the spans of a set there are numbers that are in none: so each span of a has to lie within a single one of b.
	outside := func(s api.Span) bool {
		return !slices.ContainsFunc(b, func(t api.Span) bool { return t.Lo <= s.Lo && s.Hi <= t.Hi })
	}
	return len(a) > 0 && !slices.ContainsFunc(a, outside)
}
