package weeks

import (
	"slices"

	"aneroid/api"
	"aneroid/clocks"
	"aneroid/pens"
	"aneroid/stations"
)

// A place is where a course is at a tick: at a node, with what is shown.
type place struct{ node, shown int }

// course returns a course, or false if there is none.
func (q inquiry) course() (api.Course, bool) {
	for zero := range q.zeros() {
		if stages, ok := q.ends(zero); ok {
			return q.courseThrough(stages, zero), true
		}
	}
	return api.Course{}, false
}

// courseThrough returns a course with a zero through stages from all of whose values courses can go on to the last tick.
func (q inquiry) courseThrough(stages []stage, zero int) api.Course {
	c := api.Course{Zero: zero, Ticks: make([]int, q.last()+1)}
	at := first(stages[0])
	for tick := range stages {
		if tick > 0 {
			at = q.follow(at, q.moves[tick-1], stages[tick])
		}
		if s := q.states[at.node/q.width]; s.column >= 0 && s.ago == 0 {
			c.Ticks[s.column] = tick
		}
		c.Shown = append(c.Shown, at.shown)
		c.Levels = append(c.Levels, at.shown+q.offset(at.node)+zero)
	}
	return c
}

// first returns the first place of a stage that is not empty.
func first(s stage) place {
	node := slices.IndexFunc(s, func(set []api.Span) bool { return len(set) > 0 })
	return place{node, s[node][0].Lo}
}

// follow returns the first place of the next stage to which a course can go on from a place; there is one.
func (q inquiry) follow(from place, m moves, to stage) place {
	for _, link := range q.behind[from.node/q.width] {
		for i, change := range m.changes[from.node%q.width] {
			node := link*q.width + i
			reached := []api.Span{sum(single(from.shown), change)}
			if left := meet(nil, to[node], reached); len(left) > 0 {
				return place{node, left[0].Lo}
			}
		}
	}
	return place{}
}

// agrees reports whether a course agrees with a sheet and the readings of its station.
func (o *opened) agrees(sheet int, c api.Course) bool {
	f := o.charts[sheet]
	switch {
	case !has(f.Sheet.Pen.Zero, c.Zero),
		!areWithin(c.Ticks, o.Base.Ticks),
		!areWithin(c.Shown, api.MaxLevel) || len(c.Shown) != o.Base.Ticks+1,
		!areWithin(c.Levels, api.MaxLevel) || len(c.Levels) != o.Base.Ticks+1,
		clocks.Keeps(f.Sheet.Drum, f.Marks, c.Ticks) != api.OK,
		pens.Keeps(f.Sheet.Pen, moments(c)) != api.OK:
		return false
	}
	for column, tick := range c.Ticks {
		if ink := f.ink[column]; len(ink) > 0 && !isIn(ink, c.Shown[tick]) {
			return false
		}
	}
	for _, r := range o.Reads {
		if r.Station == f.Station && !has(r.Levels, c.Levels[r.Tick]) {
			return false
		}
	}
	return true
}

// areWithin reports whether numbers are all from 0 to a greatest one.
func areWithin(l []int, greatest int) bool {
	return !slices.ContainsFunc(l, func(n int) bool { return !between(n, 0, greatest) })
}

func isIn(set []api.Span, n int) bool {
	return slices.ContainsFunc(set, func(s api.Span) bool { return has(s, n) })
}

// moments returns what a pen showed in a course, and what was real.
func moments(c api.Course) []api.Moment {
	l := make([]api.Moment, len(c.Shown))
	for i, shown := range c.Shown {
		l[i] = api.Moment{Shown: shown, Real: c.Levels[i] - c.Zero}
	}
	return l
}

// Keeps returns OK if courses of all sheets agree with a week.
func Keeps(w api.Week, l []api.Course) api.Errno {
	o, e := open(w)
	if e != api.OK {
		return e
	}
	if len(l) != len(o.charts) {
		return api.ErrClash
	}
	levels := make([]int, len(l))
	for i, c := range l {
		if !o.agrees(i, c) {
			return api.ErrClash
		}
		levels[i] = c.Levels[o.Base.Term]
	}
	if ok, _ := stations.Keeps(o.Base.Wind, o.places(), o.Week.Week, levels); !ok {
		return api.ErrClash
	}
	return api.OK
}

// places returns the stations of all sheets.
func (o *opened) places() []api.Station {
	var l []api.Station
	for _, f := range o.Sheets {
		i, _ := stations.StationOf(o.Base.Stations, f.Station)
		l = append(l, o.Base.Stations[i])
	}
	return l
}

// Courses returns courses of all sheets with a level.
func Courses(w api.Week, sheet, tick, level int) ([]api.Course, api.Errno) {
	r, e := openRegion(w, between(tick, 0, w.Base.Ticks), sheet)
	if e != api.OK {
		return nil, e
	}
	asked := r.own(sheet).at(tick, []api.Span{single(level)})
	t, ok := r.with(sheet, asked.terms()).least()
	if !ok {
		return nil, api.ErrNone
	}
	var l []api.Course
	for i, level := range t.levels {
		q := r.own(i)
		if i == sheet {
			q = asked
		}
		c, _ := q.at(q.term, []api.Span{single(level)}).course()
		l = append(l, c)
	}
	return l, api.OK
}
