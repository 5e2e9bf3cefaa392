package weeks_test

import (
	"slices"
	"testing"

	"aneroid/api"
	"aneroid/paper"
	"aneroid/stations"
	"aneroid/weeks"
)

// A real week is one of which all that is noted is true, with what really was.
type real struct {
	api.Week
	courses []api.Course
}

// real returns a real week of so many stations, which is larger than those of which all courses can be tried.
func (d dice) real(count int) real {
	var r real
	r.Week.Week = d.from(0, 5)
	b := &r.Base
	b.Ticks = d.from(6, 24)
	b.Term = d.from(0, b.Ticks)
	b.Wind = api.Wind{Fixed: 4, Each: 20}
	seas := d.weather(b.Ticks)
	for i := range count {
		s := station(2*i+1, d.from(0, 30), d.from(0, 30), 0, 0)
		height := d.from(0, 800)
		s.Heights[0].Metres = span(height-d.from(0, min(height, 20)), height+d.from(0, 20))
		b.Stations = append(b.Stations, s)
		f, c := d.drawn(seas, height)
		f.Station, f.Week = s.ID, r.Week.Week
		r.Sheets = append(r.Sheets, f)
		r.courses = append(r.courses, c)
		for range d.from(0, 3) {
			tick := d.from(0, b.Ticks)
			level := c.Levels[tick]
			r.Reads = append(r.Reads, read(s.ID, r.Week.Week, tick, level-d.from(0, 3), level+d.from(0, 3)))
		}
	}
	return r
}

// weather returns levels at the sea that rise, fall or stay.
func (d dice) weather(ticks int) []int {
	l := []int{d.from(9900, 10200)}
	for tick := range ticks {
		l = append(l, l[tick]+d.one(-4, -1, 0, 0, 1, 4))
	}
	return l
}

// drawn returns a sheet that a pen drew at some height, and what really was.
func (d dice) drawn(seas []int, height int) (api.Filed, api.Course) {
	ticks := len(seas) - 1
	f := sheet(0)
	s := &f.Sheet
	s.Paper = api.Paper{Pitch: 100, Height: 10000, Radius: 0, Low: 9000, High: 10500, Columns: d.one(d.from(3, ticks), ticks+1), Along: span(1000, 1000), Across: span(1000, 1000)}
	zero := d.from(-3, 3)
	s.Pen = api.Pen{Band: d.from(0, 2), Zero: span(zero-d.from(0, 2), zero+d.from(0, 2)), Rate: 5}
	c := api.Course{Zero: zero, Ticks: d.clock(s.Paper.Columns, ticks)}
	now := 0
	for tick, sea := range seas {
		// A level of about this one at the sea, which the stations do not have in common to the tenth.
		level := sea*8000/(8000+height) + d.from(0, 1)
		if tick == 0 {
			now = level - zero + d.from(-s.Pen.Band, s.Pen.Band)
		}
		now = min(max(now, level-zero-s.Pen.Band), level-zero+s.Pen.Band)
		c.Levels, c.Shown = append(c.Levels, level), append(c.Shown, now)
	}
	s.Drum.Rates = nil
	inked, half := d.from(1, 6), d.from(0, 20)
	for i := range s.Paper.Columns - 1 {
		gap := c.Ticks[i+1] - c.Ticks[i]
		s.Drum.Rates = append(s.Drum.Rates, span(max(1, gap-d.from(0, 1)), gap+d.from(0, 1)))
	}
	for column, tick := range c.Ticks {
		if d.IntN(6) < inked {
			f.Sheet.Trace = append(f.Sheet.Trace, printed(s.Paper, column, c.Shown[tick], d.from(0, half)))
		}
		if d.IntN(4) == 0 {
			f.Marks = append(f.Marks, markAt(column, max(0, tick-d.from(0, 2)), min(ticks, tick+d.from(0, 2))))
		}
	}
	return f, c
}

// printed returns a point that means a level in a column.
func printed(p api.Paper, column, level, half int) api.Point {
	return point(100*column+50, must(paper.Heights(p, level)).Lo, half)
}

// TestAsItReallyWas is P0.4 for a week: real courses are courses of the region, and what is told is true of them.
func TestAsItReallyWas(t *testing.T) {
	x := newDice(30)
	chances := map[int]int{}
	for range 60 {
		r := x.real(x.from(2, 4))
		w := r.Week
		// The wind is as strong as it really was.
		var terms []int
		for _, c := range r.courses {
			terms = append(terms, c.Levels[w.Base.Term])
		}
		for !must(stations.Keeps(w.Base.Wind, places(w), w.Week, terms)) {
			w.Base.Wind.Fixed++
		}
		if e := weeks.Keeps(w, r.courses); e != api.OK {
			t.Fatal(w, r.courses, e)
		}
		if !must(weeks.Whole(w)) || len(must(weeks.Misfiled(w))) > 0 {
			t.Fatal(w)
		}
		rise := x.one(-5, -4, -3, -2, 2, 3, 4, 5)
		for i, c := range r.courses {
			if !slices.Contains(must(weeks.Zeros(w, i)), c.Zero) {
				t.Fatal(w, i)
			}
			for tick, l := range must(weeks.Levels(w, i)) {
				if !has(l, c.Levels[tick]) {
					t.Fatal(w, i, tick)
				}
			}
			for column, l := range must(weeks.Columns(w, i)) {
				if !has(l, c.Ticks[column]) {
					t.Fatal(w, i, column)
				}
			}
			for tick, chance := range must(weeks.Fronts(w, i, rise)) {
				is := isFront(c, tick, rise)
				if is && chance == api.FrontNever || !is && chance == api.FrontCertain {
					t.Fatal(w, i, tick, rise)
				}
				chances[chance]++
			}
		}
		checkPassages(t, w, r.courses, rise)
		checkReach(t, w, x)
	}
	enough(t, "never", chances[api.FrontNever], 100)
	enough(t, "certain", chances[api.FrontCertain], 10)
}

// checkPassages checks that real fronts are among Passages.
func checkPassages(t *testing.T, w api.Week, l []api.Course, rise int) {
	t.Helper()
	pairs := must(weeks.Passages(w, 1, 0, rise))
	for u := range w.Base.Ticks {
		for v := range w.Base.Ticks {
			if isFront(l[1], u, rise) && isFront(l[0], v, rise) && !slices.ContainsFunc(pairs, func(p []int) bool { return slices.Equal(p, []int{u, v}) }) {
				t.Fatal(w, u, v, rise)
			}
		}
	}
}

// checkReach checks that courses reach the ends of what is told, and no level beside it.
func checkReach(t *testing.T, w api.Week, x dice) {
	t.Helper()
	i, tick := x.IntN(len(w.Sheets)), x.from(0, w.Base.Ticks)
	checkCourses(t, w, i, tick, must(weeks.Level(w, i, tick)))
}

// TestSurelyInLargeWeeks compares Surely with Front, tick by tick, and with the calm courses that are found.
func TestSurelyInLargeWeeks(t *testing.T) {
	x := newDice(31)
	certain, may := 0, 0
	for range 60 {
		w := x.real(2).Week
		w.Base.Wind.Fixed = 1000
		rise := x.one(-4, -3, -2, 2, 3, 4)
		fronts := must(weeks.Fronts(w, 0, rise))
		from := x.from(0, w.Base.Ticks-1)
		for to := from + 1; to <= w.Base.Ticks; to++ {
			surely := must(weeks.Surely(w, 0, from, to, rise))
			if greatest := slices.Max(fronts[from:to]); surely < greatest || surely == api.FrontMay && greatest == api.FrontNever {
				t.Fatal(w, from, to, rise, surely)
			}
			if to > from+1 && surely < must(weeks.Surely(w, 0, from, to-1, rise)) {
				t.Fatal(w, from, to, rise, surely)
			}
			switch surely {
			case api.FrontCertain:
				certain++
			case api.FrontMay:
				may++
			}
		}
	}
	enough(t, "certain", certain, 30)
	enough(t, "may", may, 50)
}
