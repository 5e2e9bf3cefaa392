// Package paper is layer 1: see shared/doc/01-paper.md.
package paper

import "aneroid/api"

// Bounds of the chapter that package api does not name.
const (
	maxPitch  = 10000
	maxRadius = 10 * api.MaxPaper
	maxHalf   = 5000
	maxKnown  = 2 * api.MaxPaper
)

// CheckPaper returns OK if a paper is valid.
func CheckPaper(p api.Paper) api.Errno {
	// The levels are bounded before they are subtracted, so that the difference cannot wrap around.
	switch {
	case !between(p.Pitch, 1, maxPitch),
		!between(p.Height, 1, api.MaxPaper),
		p.Radius != 0 && !between(p.Radius, p.Height, maxRadius),
		p.Low < 0 || p.Low >= p.High || p.High > api.MaxLevel,
		p.High-p.Low > p.Height,
		!between(p.Columns, 1, api.MaxColumns),
		!isShrinkage(p.Along),
		!isShrinkage(p.Across):
		return api.ErrPaper
	}
	return api.OK
}

// CheckTrace returns what is wrong with a trace first.
func CheckTrace(l []api.Point) (api.Errno, int) {
	if len(l) > api.MaxPoints {
		return api.ErrLimit, 0
	}
	for i, t := range l {
		if !isPoint(t) {
			return api.ErrTrace, i
		}
	}
	return api.OK, 0
}

// Along returns the printed places along of a point.
func Along(p api.Paper, t api.Point) (api.Span, api.Errno) {
	if e := check(p, t); e != api.OK {
		return api.Span{}, e
	}
	return along(p, t), api.OK
}

// Across returns the printed heights of a point.
func Across(p api.Paper, t api.Point) (api.Span, api.Errno) {
	if e := check(p, t); e != api.OK {
		return api.Span{}, e
	}
	return across(p, t), api.OK
}

// Arc returns by how much a time line is bent at a height.
func Arc(p api.Paper, y int) (int, api.Errno) {
	if e := checkHeight(p, y); e != api.OK {
		return 0, e
	}
	return arcs(p)(y), api.OK
}

// Level returns the level of a printed height.
func Level(p api.Paper, y int) (int, api.Errno) {
	if e := checkHeight(p, y); e != api.OK {
		return 0, e
	}
	return level(p, y), api.OK
}

// Heights returns the printed heights of a level.
func Heights(p api.Paper, level int) (api.Span, api.Errno) {
	if e := CheckPaper(p); e != api.OK {
		return api.Span{}, e
	}
	if !between(level, p.Low, p.High) {
		return api.Span{}, api.ErrArg
	}
	first := lowest(p, level)
	next := lowest(p, level+1)
	return api.Span{Lo: first, Hi: min(next-1, p.Height)}, api.OK
}

// Columns returns the columns in which a point may lie.
func Columns(p api.Paper, t api.Point) (api.Span, api.Errno) {
	if e := check(p, t); e != api.OK {
		return api.Span{}, e
	}
	columns, ok := columnsOf(p, t)
	if !ok {
		return api.Span{}, api.ErrNone
	}
	return columns, api.OK
}

// Levels returns the levels that a point may mean.
func Levels(p api.Paper, t api.Point) (api.Span, api.Errno) {
	if e := check(p, t); e != api.OK {
		return api.Span{}, e
	}
	heights, ok := heightsOf(p, t)
	if !ok {
		return api.Span{}, api.ErrNone
	}
	return levelsOf(p, heights), api.OK
}

// Means returns the levels that a point may mean in a column.
func Means(p api.Paper, t api.Point, column int) ([]api.Span, api.Errno) {
	if e := check(p, t); e != api.OK {
		return nil, e
	}
	if !between(column, 0, p.Columns-1) {
		return nil, api.ErrArg
	}
	var meant levels
	for heights := range heightsIn(p, t, column) {
		meant.add(levelsOf(p, heights))
	}
	return meant.spans, api.OK
}

// Shrink returns where a printed place lies on a shrunk sheet.
func Shrink(p api.Paper, t api.Point, along, across int) (api.Point, api.Errno) {
	if e := check(p, t); e != api.OK {
		return api.Point{}, e
	}
	if !between(along, p.Along.Lo, p.Along.Hi) || !between(across, p.Across.Lo, p.Across.Hi) {
		return api.Point{}, api.ErrArg
	}
	shrunk := api.Point{X: t.X * along / 1000, Y: t.Y * across / 1000, Half: t.Half}
	if !isPoint(shrunk) {
		return api.Point{}, api.ErrLimit
	}
	return shrunk, api.OK
}

// Calibrate returns a paper with shrinkage as a known printed place allows it.
func Calibrate(p api.Paper, x, y int, t api.Point) (api.Paper, api.Errno) {
	if e := check(p, t); e != api.OK {
		return api.Paper{}, e
	}
	if !between(x, -1, maxKnown) || !between(y, -1, maxKnown) {
		return api.Paper{}, api.ErrArg
	}
	p.Along = calibrated(p.Along, x, t.X, t.Half)
	p.Across = calibrated(p.Across, y, t.Y, t.Half)
	if p.Along.Lo > p.Along.Hi || p.Across.Lo > p.Across.Hi {
		return api.Paper{}, api.ErrNone
	}
	return p, api.OK
}

// calibrated returns the shrinkage that brings a known printed length (-1: not known) to within half of a length on the sheet.
func calibrated(shrink api.Span, known, length, half int) api.Span {
	if known < 0 {
		return shrink
	}
	// A negative quotient is rounded up here, but the maximum does not see it.
	shrink.Lo = max(shrink.Lo, (length-half)*1000/(known+1))
	if known > 0 {
		shrink.Hi = min(shrink.Hi, ceilDiv((length+half)*1000, known))
	}
	return shrink
}

// check returns the error of a paper, or that of a point.
func check(p api.Paper, t api.Point) api.Errno {
	if e := CheckPaper(p); e != api.OK {
		return e
	}
	if !isPoint(t) {
		return api.ErrTrace
	}
	return api.OK
}

// checkHeight returns the error of a paper, or that of a printed height on it.
func checkHeight(p api.Paper, y int) api.Errno {
	if e := CheckPaper(p); e != api.OK {
		return e
	}
	if !between(y, 0, p.Height) {
		return api.ErrArg
	}
	return api.OK
}

func isShrinkage(s api.Span) bool {
	return api.MinShrink <= s.Lo && s.Lo <= s.Hi && s.Hi <= api.MaxShrink
}

func isPoint(t api.Point) bool {
	return between(t.X, 0, api.MaxPaper) && between(t.Y, 0, api.MaxPaper) && between(t.Half, 0, maxHalf)
}

func between(n, least, greatest int) bool { return least <= n && n <= greatest }
