package paper

import (
	"iter"
	"sort"

	"aneroid/api"
)

// along returns the printed places along of a valid point.
func along(p api.Paper, t api.Point) api.Span { return printed(t.X, t.Half, p.Along) }

// across returns the printed heights of a valid point, also those above the paper's.
func across(p api.Paper, t api.Point) api.Span { return printed(t.Y, t.Half, p.Across) }

// printed returns the printed lengths that may have come to lie within half of a length.
func printed(length, half int, shrink api.Span) api.Span {
	// A negative quotient is rounded up here, but the maximum does not see it.
	return api.Span{
		Lo: max(0, (length-half)*1000/shrink.Hi),
		Hi: (length + half) * 1000 / shrink.Lo,
	}
}

// arcs returns the function that finds the arc at a height from 0 to the paper's.
func arcs(p api.Paper) func(y int) int {
	if p.Radius == 0 {
		return func(int) int { return 0 }
	}
	return func(y int) int { return y * (p.Height - y) / (2 * p.Radius) }
}

// level returns the level of a height from 0 to the paper's.
func level(p api.Paper, y int) int { return p.Low + y*(p.High-p.Low)/p.Height }

// lowest returns the least height at which no level is less than the given one; for the level after High it lies above the paper.
func lowest(p api.Paper, level int) int {
	return ceilDiv((level-p.Low)*p.Height, p.High-p.Low)
}

// levelsOf returns the levels of heights one behind the other. As levels rise by at most 1 at a time, none between is left out.
func levelsOf(p api.Paper, heights api.Span) api.Span {
	return api.Span{Lo: level(p, heights.Lo), Hi: level(p, heights.Hi)}
}

// heightsOf returns the printed heights of a point that are on the form, or false if there are none.
func heightsOf(p api.Paper, t api.Point) (api.Span, bool) {
	heights := across(p, t)
	if heights.Lo > p.Height {
		return api.Span{}, false
	}
	heights.Hi = min(heights.Hi, p.Height)
	return heights, true
}

// columnsOf returns the columns of the printed places of a point, or false if there are none.
func columnsOf(p api.Paper, t api.Point) (api.Span, bool) {
	heights, ok := heightsOf(p, t)
	if !ok {
		return api.Span{}, false
	}
	// Arcs grow up to the middle and shrink behind it, by at most 1 at a time: so the greatest one is at the height next to the middle, the least one at an end, and no place between is left out.
	arc := arcs(p)
	middle := min(max(p.Height/2, heights.Lo), heights.Hi)
	least, greatest := min(arc(heights.Lo), arc(heights.Hi)), arc(middle)
	places := along(p, t)
	columns := api.Span{
		Lo: max(0, floorDiv(places.Lo-greatest, p.Pitch)),
		Hi: min(p.Columns-1, floorDiv(places.Hi-least, p.Pitch)),
	}
	if columns.Lo > columns.Hi {
		return api.Span{}, false
	}
	return columns, true
}

// heightsIn yields the printed heights at which a point may lie in a column, as spans in increasing order: one below the middle, and one above it.
func heightsIn(p api.Paper, t api.Point, column int) iter.Seq[api.Span] {
	return func(yield func(api.Span) bool) {
		heights, ok := heightsOf(p, t)
		if !ok {
			return
		}
		// At the arcs from least to greatest some place along is bent into the column.
		places := along(p, t)
		least := places.Lo - (column+1)*p.Pitch + 1
		greatest := places.Hi - column*p.Pitch
		arc := arcs(p)
		middle := p.Height / 2
		below := stretch(api.Span{Lo: heights.Lo, Hi: min(heights.Hi, middle)},
			func(y int) bool { return arc(y) >= least },
			func(y int) bool { return arc(y) > greatest })
		if below.Lo <= below.Hi && !yield(below) {
			return
		}
		above := stretch(api.Span{Lo: max(heights.Lo, middle+1), Hi: heights.Hi},
			func(y int) bool { return arc(y) <= greatest },
			func(y int) bool { return arc(y) < least })
		if above.Lo <= above.Hi {
			yield(above)
		}
	}
}

// stretch returns the numbers of a span that begins holds for, and ends does not; both hold from some number on. The result is empty if its Lo is above its Hi.
func stretch(s api.Span, begins, ends func(n int) bool) api.Span {
	count := s.Hi - s.Lo + 1
	first := sort.Search(count, func(i int) bool { return begins(s.Lo + i) })
	behind := sort.Search(count, func(i int) bool { return ends(s.Lo + i) })
	return api.Span{Lo: s.Lo + first, Hi: s.Lo + behind - 1}
}

// floorDiv divides by a positive number and rounds down.
func floorDiv(n, by int) int {
	if n < 0 {
		return -ceilDiv(-n, by)
	}
	return n / by
}

// ceilDiv divides a number that is not negative by a positive one and rounds up.
func ceilDiv(n, by int) int { return (n + by - 1) / by }
