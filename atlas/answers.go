package atlas

import (
	"slices"

	"aneroid/api"
	"aneroid/stations"
)

// sheetOf returns the index of the sheet of a station in a week of any form, or -1.
func sheetOf(w api.Week, station int) int {
	return slices.IndexFunc(w.Sheets, func(f api.Filed) bool { return f.Station == station })
}

// told returns what one of the lists of the sheet of a station has at a tick.
func told[E any](x api.Atlas, station, tick int, list func(s api.Shown) []E) (E, api.Errno) {
	var none E
	w, e := standing(x)
	if e != api.OK {
		return none, e
	}
	i := sheetOf(w, station)
	if i < 0 {
		return none, api.ErrNone
	}
	if i >= len(x.Shown) {
		return none, api.ErrAtlas
	}
	l := list(x.Shown[i])
	if tick < 0 || tick >= len(l) {
		return none, api.ErrAtlas
	}
	return l[tick], api.OK
}

// LevelsOf returns the levels of a station at a tick.
func LevelsOf(x api.Atlas, station, tick int) ([]api.Span, api.Errno) {
	l, e := told(x, station, tick, func(s api.Shown) [][]api.Span { return s.Levels })
	return slices.Clone(l), e
}

// SpanOf returns the least and the greatest level of a station at a tick.
func SpanOf(x api.Atlas, station, tick int) (api.Span, api.Errno) {
	l, e := LevelsOf(x, station, tick)
	if e != api.OK {
		return api.Span{}, e
	}
	if len(l) == 0 {
		return api.Span{}, api.ErrAtlas
	}
	return api.Span{Lo: l[0].Lo, Hi: l[len(l)-1].Hi}, api.OK
}

// May reports whether a level is possible.
func May(x api.Atlas, station, tick, level int) (bool, api.Errno) {
	l, e := LevelsOf(x, station, tick)
	return isIn(l, level), e
}

// CoursesOf returns courses with an end of the levels.
func CoursesOf(x api.Atlas, station, tick int, high bool) ([]api.Course, api.Errno) {
	l, e := told(x, station, tick, func(s api.Shown) [][]api.Course {
		if high {
			return s.Most
		}
		return s.Least
	})
	return copyEach(l, copyCourse), e
}

// FrontOf returns the chance of a front.
func FrontOf(x api.Atlas, station, tick int) (int, api.Errno) {
	return told(x, station, tick, func(s api.Shown) []int { return s.Fronts })
}

// Corrected returns the claims that are corrected.
func Corrected(x api.Atlas) ([]api.Claim, api.Errno) {
	if x.Trouble != api.ErrClash {
		return nil, api.ErrAtlas
	}
	if len(x.Drops) == 0 {
		return nil, api.ErrNone
	}
	return slices.Clone(x.Drops[0]), api.OK
}

// Open returns at how many ticks levels are open.
func Open(x api.Atlas) ([]int, api.Errno) {
	if x.Trouble != api.OK && x.Trouble != api.ErrClash {
		return nil, api.ErrAtlas
	}
	counts := make([]int, len(x.Shown))
	for i, s := range x.Shown {
		for _, set := range s.Levels {
			if len(set) != 1 || set[0].Lo != set[0].Hi {
				counts[i]++
			}
		}
	}
	return counts, api.OK
}

// Compare returns the stations in which two atlases differ.
func Compare(x, y api.Atlas) ([]int, api.Errno) {
	w, e := standing(x)
	if e != api.OK {
		return nil, e
	}
	v, e := standing(y)
	if e != api.OK {
		return nil, e
	}
	var ids []int
	for i, f := range w.Sheets {
		one, ok := levelsAt(x, i)
		other, isThere := levelsAt(y, sheetOf(v, f.Station))
		if !ok || !isThere || !sameLists(one, other) {
			ids = append(ids, f.Station)
		}
	}
	return ids, api.OK
}

// levelsAt returns the levels of a sheet, or false if there is nothing shown of it.
func levelsAt(x api.Atlas, sheet int) ([][]api.Span, bool) {
	if sheet < 0 || sheet >= len(x.Shown) {
		return nil, false
	}
	return x.Shown[sheet].Levels, true
}

// Sea returns the bounds of the level at the sea at the term.
func Sea(x api.Atlas, station int) (api.Span, api.Errno) {
	s, e := SpanOf(x, station, x.Base.Term)
	if e != api.OK {
		return api.Span{}, e
	}
	heights, e := heightsOf(x, station)
	if e != api.OK {
		return api.Span{}, e
	}
	low, e := stations.Seas(s.Lo, heights)
	if e != api.OK {
		return api.Span{}, e
	}
	high, e := stations.Seas(s.Hi, heights)
	if e != api.OK {
		return api.Span{}, e
	}
	return api.Span{Lo: low.Lo, Hi: high.Hi}, api.OK
}

// heightsOf returns the heights of a station in the standing week.
func heightsOf(x api.Atlas, id int) (api.Span, api.Errno) {
	w, e := standing(x)
	if e != api.OK {
		return api.Span{}, e
	}
	var found api.Station // no valid one, if the week, which may have any form, has none
	if i := slices.IndexFunc(w.Base.Stations, func(s api.Station) bool { return s.ID == id }); i >= 0 {
		found = w.Base.Stations[i]
	}
	return stations.Height(found, w.Week)
}
