package weeks_test

import (
	"fmt"
	"math/rand/v2"
	"slices"
	"testing"

	"aneroid/api"
	"aneroid/weeks"
)

func span(lo, hi int) api.Span { return api.Span{Lo: lo, Hi: hi} }

// set returns spans by their ends.
func set(ends ...int) []api.Span {
	var l []api.Span
	for i := 0; i < len(ends); i += 2 {
		l = append(l, span(ends[i], ends[i+1]))
	}
	return l
}

func point(x, y, half int) api.Point { return api.Point{X: x, Y: y, Half: half} }

func markAt(column, lo, hi int) api.Mark { return api.Mark{Column: column, Ticks: span(lo, hi)} }

func read(station, week, tick, lo, hi int) api.Read {
	return api.Read{Station: station, Week: week, Tick: tick, Levels: span(lo, hi)}
}

func station(id, x, y, lo, hi int) api.Station {
	return api.Station{ID: id, X: x, Y: y, Heights: []api.Height{{Week: 0, Metres: span(lo, hi)}}}
}

// sheet is a sheet of the chapter's examples with a trace, filed under a station.
func sheet(station int, trace ...api.Point) api.Filed {
	whole := span(1000, 1000)
	return api.Filed{Station: station, Sheet: api.Sheet{
		Paper: api.Paper{Pitch: 100, Height: 1000, Low: 9500, High: 10500, Columns: 2, Along: whole, Across: whole},
		Trace: trace,
		Drum:  api.Drum{Rates: set(1, 2)},
		Pen:   api.Pen{Band: 1, Rate: 3},
	}}
}

// example is the week of the chapter's examples: the sheets A and B.
func example() api.Week {
	return api.Week{
		Base: api.Base{
			Stations: []api.Station{station(1, 0, 0, 0, 0), station(2, 3, 4, 0, 0)},
			Wind:     api.Wind{Fixed: 1},
			Ticks:    2,
			Term:     1,
		},
		Sheets: []api.Filed{sheet(1, point(50, 500, 0), point(150, 503, 0)), sheet(2, point(50, 505, 0))},
	}
}

// clashing is the same with the reading that contradicts.
func clashing() api.Week {
	w := example()
	w.Reads = []api.Read{read(1, 0, 1, 10010, 10020)}
	return w
}

// same reports whether two values of one type are equal; nil and empty lists are.
func same[T any](a, b T) bool { return fmt.Sprint(a) == fmt.Sprint(b) }

// must returns the value of a call that must return no error.
func must[T any](value T, e api.Errno) T {
	if e != api.OK {
		panic(e)
	}
	return value
}

func expect[T any](t *testing.T, got T, e api.Errno, want T) {
	t.Helper()
	if e != api.OK || !same(got, want) {
		t.Error(got, e, "not", want)
	}
}

// expectError checks an error, and that there is nothing but a zero value beside it.
func expectError[T any](t *testing.T, got T, e, want api.Errno) {
	t.Helper()
	var zero T
	if e != want || !same(got, zero) {
		t.Error(got, e, "not", want)
	}
}

// enough fails a test that would have gone through too little.
func enough(t *testing.T, what string, seen, least int) {
	t.Helper()
	if seen < least {
		t.Error(what, "only", seen, "of at least", least)
	}
}

func has(l []api.Span, n int) bool {
	return slices.ContainsFunc(l, func(s api.Span) bool { return s.Lo <= n && n <= s.Hi })
}

// isWithin reports whether all numbers of a set are in another one.
func isWithin(l, other []api.Span) bool {
	return !slices.ContainsFunc(l, func(s api.Span) bool {
		return !slices.ContainsFunc(other, func(o api.Span) bool { return o.Lo <= s.Lo && s.Hi <= o.Hi })
	})
}

// setOf returns the set of numbers in any order.
func setOf(numbers []int) []api.Span {
	var l []api.Span
	for _, n := range slices.Compact(slices.Sorted(slices.Values(numbers))) {
		if len(l) > 0 && l[len(l)-1].Hi+1 == n {
			l[len(l)-1].Hi = n
		} else {
			l = append(l, span(n, n))
		}
	}
	return l
}

// numbers returns all numbers of a set.
func numbers(l []api.Span) []int {
	var all []int
	for _, s := range l {
		for n := s.Lo; n <= s.Hi; n++ {
			all = append(all, n)
		}
	}
	return all
}

// dice gives the same numbers in every run.
type dice struct{ *rand.Rand }

func newDice(seed uint64) dice { return dice{rand.New(rand.NewPCG(seed, 7))} }

func (d dice) from(lo, hi int) int { return lo + d.IntN(hi-lo+1) }

func (d dice) one(of ...int) int { return of[d.IntN(len(of))] }

func (d dice) span(lo, hi, wide int) api.Span {
	first := d.from(lo, hi)
	return span(first, min(hi, first+d.from(0, wide)))
}

// small is how large the parts of a small week are.
type small struct {
	ticks, band, rate, zeros int // at most
	sheets                   int
	marks, reads             int // at most: marks of a sheet, and readings of a station
}

var usual = small{ticks: 3, band: 1, rate: 2, zeros: 1, sheets: 2, marks: 1, reads: 1}

// lines is how many levels there are on the paper of small weeks; they lie at either end of all levels.
const lines = 9

// week returns a small week, of which all courses can be found by trying. Most of what is noted is true of levels that the stations have in common, so that many weeks are whole; some is not.
func (d dice) week(s small) api.Week {
	w := api.Week{Week: d.from(0, 3)}
	b := &w.Base
	b.Ticks = d.from(1, s.ticks)
	b.Term = d.from(0, b.Ticks)
	b.Wind = api.Wind{Fixed: d.from(0, 3), Each: d.one(0, 10, 40)}
	low := d.one(0, 0, api.MaxLevel-lines)
	rate := d.from(0, s.rate)
	real := d.walk(b.Ticks, low, rate)
	for i := range s.sheets + d.from(0, 1) {
		b.Stations = append(b.Stations, d.station(3*i+d.from(1, 3)))
		id := b.Stations[i].ID
		if i < s.sheets {
			w.Sheets = append(w.Sheets, d.sheet(s, real, low, rate))
			w.Sheets[i].Station, w.Sheets[i].Week = id, w.Week
		}
		for range d.from(0, s.reads) {
			tick := d.from(0, b.Ticks)
			w.Reads = append(w.Reads, api.Read{Station: id, Week: w.Week, Tick: tick, Levels: d.around(real[tick], low, low+lines, lines)})
		}
	}
	d.Shuffle(len(w.Reads), func(i, k int) { w.Reads[i], w.Reads[k] = w.Reads[k], w.Reads[i] })
	return w
}

// walk returns levels from low on that change by at most rate.
func (d dice) walk(ticks, low, rate int) []int {
	l := []int{d.from(low, low+lines)}
	for tick := range ticks {
		l = append(l, d.from(max(low, l[tick]-rate), min(low+lines, l[tick]+rate)))
	}
	return l
}

// around returns a span within bounds; mostly it has a number.
func (d dice) around(n, lo, hi, wide int) api.Span {
	if d.IntN(5) == 0 {
		return d.span(lo, hi, wide)
	}
	return span(max(lo, n-d.from(0, wide/2)), min(hi, n+d.from(0, wide/2)))
}

// station returns a station; some of them lie high, or are moved in the week 2.
func (d dice) station(id int) api.Station {
	s := station(id, d.from(0, 9), d.from(0, 9), 0, 0)
	if d.IntN(4) == 0 {
		s.Heights[0].Metres = d.span(0, 4000, 2000)
	}
	if d.IntN(4) == 0 {
		s.Heights = append(s.Heights, api.Height{Week: 2, Metres: d.span(0, 1000, 500)})
	}
	return s
}

// sheet returns a sheet that shows something in some column; real is what really was.
func (d dice) sheet(s small, real []int, low, rate int) api.Filed {
	ticks := len(real) - 1
	columns := d.from(2, min(3, ticks+1))
	f := sheet(0)
	p := &f.Sheet.Paper
	p.Height, p.Low, p.High, p.Columns = 100*lines, low, low+lines, columns
	pen := api.Pen{Band: d.from(0, s.band), Rate: rate}
	pen.Zero.Lo = d.from(-2, 2)
	pen.Zero.Hi = pen.Zero.Lo + d.from(0, s.zeros)
	f.Sheet.Pen = pen
	f.Sheet.Drum.Rates = nil
	for range columns - 1 {
		f.Sheet.Drum.Rates = append(f.Sheet.Drum.Rates, d.span(1, 2, 2))
	}
	if d.IntN(4) == 0 {
		f.Sheet.Drum.Stops = []api.Stop{{Column: d.from(0, columns-2), Ticks: d.span(0, 1, 1)}}
	}
	clock, shown := d.clock(columns, ticks), d.shown(pen, real)
	for len(f.Sheet.Trace) == 0 {
		for c := range columns {
			f.Sheet.Trace = append(f.Sheet.Trace, d.ink(c, shown[clock[c]]-low)...)
		}
	}
	for range d.from(0, s.marks) {
		c := d.from(0, columns-1)
		f.Marks = append(f.Marks, api.Mark{Column: c, Ticks: d.around(clock[c], 0, ticks, ticks)})
		f.Names = append(f.Names, api.Name{Clerk: 1, Num: len(f.Marks)})
	}
	return f
}

// clock returns ticks of columns that increase.
func (d dice) clock(columns, last int) []int {
	l := d.Perm(last + 1)[:columns]
	slices.Sort(l)
	return l
}

// shown returns what a pen shows of real levels, with some zero and some first number.
func (d dice) shown(p api.Pen, real []int) []int {
	zero := d.from(p.Zero.Lo, p.Zero.Hi)
	now := real[0] - zero + d.from(-p.Band, p.Band)
	var l []int
	for _, level := range real {
		now = min(max(now, level-zero-p.Band), level-zero+p.Band)
		l = append(l, now)
	}
	return l
}

// ink returns points of a column: none, or one at a line of the paper, and sometimes another one.
func (d dice) ink(column, line int) []api.Point {
	var l []api.Point
	if d.IntN(4) > 0 {
		l = append(l, point(100*column+50, 50+100*min(max(0, line), lines-1), d.one(0, 0, 49, 60)))
	}
	if d.IntN(6) == 0 {
		l = append(l, point(100*column+50, 50+100*d.from(0, lines-1), 0))
	}
	return l
}

// weeks yields small weeks that are valid.
func (d dice) weeks(s small, count int) func(yield func(api.Week) bool) {
	return func(yield func(api.Week) bool) {
		for range count {
			w := d.week(s)
			if e := weeks.Check(w); e != api.OK {
				panic(e)
			}
			if !yield(w) {
				return
			}
		}
	}
}
