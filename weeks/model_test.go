package weeks_test

import (
	"maps"
	"slices"

	"aneroid/api"
	"aneroid/paper"
	"aneroid/stations"
)

// The following functions find all courses of small weeks by trying, as the words of the chapter have it.

// gapsOf returns the gaps of a drum.
func gapsOf(d api.Drum) []api.Span {
	gaps := slices.Clone(d.Rates)
	for _, s := range d.Stops {
		gaps[s.Column].Lo += s.Ticks.Lo
		gaps[s.Column].Hi += s.Ticks.Hi
	}
	return gaps
}

// clocksOf returns all ticks of the columns of a sheet.
func clocksOf(f api.Filed, last int) [][]int {
	gaps := gapsOf(f.Sheet.Drum)
	var all [][]int
	var ticks []int
	var search func(least, most int)
	search = func(least, most int) {
		c := len(ticks)
		if c > len(gaps) {
			all = append(all, slices.Clone(ticks))
			return
		}
		for tick := least; tick <= min(most, last); tick++ {
			if slices.ContainsFunc(f.Marks, func(m api.Mark) bool { return m.Column == c && !has([]api.Span{m.Ticks}, tick) }) {
				continue
			}
			ticks = append(ticks, tick)
			if c < len(gaps) {
				search(tick+gaps[c].Lo, tick+gaps[c].Hi)
			} else {
				search(0, 0)
			}
			ticks = ticks[:c]
		}
	}
	search(0, last)
	return all
}

// isShown reports whether the ink of a sheet allows what is shown at a tick.
func isShown(ink api.Inked, ticks []int, tick, shown int) bool {
	c := slices.Index(ticks, tick)
	return c < 0 || len(ink.Columns[c]) == 0 || has(ink.Columns[c], shown)
}

// isReal reports whether readings of a station allow a level at a tick.
func isReal(w api.Week, station, tick, level int) bool {
	return 0 <= level && level <= api.MaxLevel && !slices.ContainsFunc(w.Reads, func(r api.Read) bool {
		return r.Station == station && r.Tick == tick && !has([]api.Span{r.Levels}, level)
	})
}

// coursesOf returns all courses that agree with a sheet of a small week as if it were filed under a station.
func coursesOf(w api.Week, sheet, station int) []api.Course {
	f := w.Sheets[sheet]
	p := f.Sheet.Pen
	ink := must(paper.Ink(f.Sheet.Paper, f.Sheet.Trace, f.Sheet.Blots))
	var all []api.Course
	for zero := p.Zero.Lo; zero <= p.Zero.Hi; zero++ {
		for _, ticks := range clocksOf(f, w.Base.Ticks) {
			var shown, levels []int
			var search func(now, real int)
			search = func(now, real int) {
				tick := len(shown)
				if now < 0 || now > api.MaxLevel || !isShown(ink, ticks, tick, now) || !isReal(w, station, tick, real+zero) {
					return
				}
				shown, levels = append(shown, now), append(levels, real+zero)
				if tick == w.Base.Ticks {
					all = append(all, api.Course{Zero: zero, Ticks: ticks, Shown: slices.Clone(shown), Levels: slices.Clone(levels)})
				} else {
					for next := real - p.Rate; next <= real+p.Rate; next++ {
						search(min(max(now, next-p.Band), next+p.Band), next)
					}
				}
				shown, levels = shown[:tick], levels[:tick]
			}
			// A sheet shows something somewhere: from there a pen is not further away than this.
			far := w.Base.Ticks * (p.Rate + 2*p.Band)
			for now := f.Sheet.Paper.Low - far; now <= f.Sheet.Paper.High+far; now++ {
				for real := now - p.Band; real <= now+p.Band; real++ {
					search(now, real)
				}
			}
		}
	}
	return all
}

// agrees reports whether a course of any form agrees with a sheet as if it were filed under a station.
func agrees(w api.Week, sheet, station int, c api.Course) bool {
	f := w.Sheets[sheet]
	p := f.Sheet.Pen
	ink := must(paper.Ink(f.Sheet.Paper, f.Sheet.Trace, f.Sheet.Blots))
	if !has([]api.Span{p.Zero}, c.Zero) || len(c.Shown) != w.Base.Ticks+1 || len(c.Levels) != w.Base.Ticks+1 {
		return false
	}
	if !slices.ContainsFunc(clocksOf(f, w.Base.Ticks), func(ticks []int) bool { return slices.Equal(ticks, c.Ticks) }) {
		return false
	}
	for tick, now := range c.Shown {
		real := c.Levels[tick] - c.Zero
		if now < 0 || now > api.MaxLevel || real < now-p.Band || real > now+p.Band {
			return false
		}
		if !isShown(ink, c.Ticks, tick, now) || !isReal(w, station, tick, c.Levels[tick]) {
			return false
		}
		if tick > 0 && (max(c.Levels[tick]-c.Levels[tick-1], c.Levels[tick-1]-c.Levels[tick]) > p.Rate || now != min(max(c.Shown[tick-1], real-p.Band), real+p.Band)) {
			return false
		}
	}
	return true
}

// A model has all courses of a small week.
type model struct {
	api.Week
	alone  [][]api.Course // all that agree with a sheet
	lists  [][]int        // all levels at the term that can be at one time
	region [][]api.Course // the courses of each sheet that are in courses of the region
}

func modelOf(w api.Week) model {
	m := model{Week: w}
	for i, f := range w.Sheets {
		m.alone = append(m.alone, coursesOf(w, i, f.Station))
	}
	m.lists = m.termLists()
	for i, l := range m.alone {
		m.region = append(m.region, slices.DeleteFunc(slices.Clone(l), func(c api.Course) bool {
			return !slices.ContainsFunc(m.lists, func(l []int) bool { return l[i] == c.Levels[w.Base.Term] })
		}))
	}
	return m
}

// places returns the stations of the sheets.
func places(w api.Week) []api.Station {
	var l []api.Station
	for _, f := range w.Sheets {
		l = append(l, w.Base.Stations[must(stations.StationOf(w.Base.Stations, f.Station))])
	}
	return l
}

// termsOf returns the levels of courses at the term, increasing.
func termsOf(w api.Week, l []api.Course) []int {
	levels := map[int]bool{}
	for _, c := range l {
		levels[c.Levels[w.Base.Term]] = true
	}
	return slices.Sorted(maps.Keys(levels))
}

// termLists returns all lists of levels at the term that can be at one time.
func (m model) termLists() [][]int {
	var all [][]int
	var list []int
	var search func()
	search = func() {
		if len(list) == len(m.alone) {
			if must(stations.Keeps(m.Base.Wind, places(m.Week), m.Week.Week, list)) {
				all = append(all, slices.Clone(list))
			}
			return
		}
		for _, level := range termsOf(m.Week, m.alone[len(list)]) {
			list = append(list, level)
			search()
			list = list[:len(list)-1]
		}
	}
	search()
	return all
}

// isWhole reports whether there are courses of the region.
func (m model) isWhole() bool { return len(m.lists) > 0 }

// levelsOf returns the set of levels of courses at each tick.
func levelsOf(w api.Week, l []api.Course) [][]api.Span {
	sets := make([][]api.Span, w.Base.Ticks+1)
	for tick := range sets {
		seen := map[int]bool{}
		for _, c := range l {
			seen[c.Levels[tick]] = true
		}
		sets[tick] = setOf(slices.Collect(maps.Keys(seen)))
	}
	return sets
}

// columnsOf returns the set of ticks of each column of courses.
func columnsOf(f api.Filed, l []api.Course) [][]api.Span {
	sets := make([][]api.Span, len(f.Sheet.Drum.Rates)+1)
	for column := range sets {
		seen := map[int]bool{}
		for _, c := range l {
			seen[c.Ticks[column]] = true
		}
		sets[column] = setOf(slices.Collect(maps.Keys(seen)))
	}
	return sets
}

// isFront reports whether there is a front in a course at a tick.
func isFront(c api.Course, tick, rise int) bool {
	change := c.Levels[tick+1] - c.Levels[tick]
	return rise > 0 && change >= rise || rise < 0 && change <= rise
}

// isFrontWithin reports whether there is one at some of the ticks from from on, but ahead of to.
func isFrontWithin(c api.Course, from, to, rise int) bool {
	for tick := from; tick < to; tick++ {
		if isFront(c, tick, rise) {
			return true
		}
	}
	return false
}

// chanceOf returns the chance of something in courses.
func chanceOf(l []api.Course, is func(c api.Course) bool) int {
	switch {
	case !slices.ContainsFunc(l, is):
		return api.FrontNever
	case slices.ContainsFunc(l, func(c api.Course) bool { return !is(c) }):
		return api.FrontMay
	}
	return api.FrontCertain
}

// passagesOf returns the pairs of ticks of fronts in two sheets.
func (m model) passagesOf(a, b, rise int) [][]int {
	var pairs [][]int
	for t := range m.Base.Ticks {
		for u := range m.Base.Ticks {
			first := termsOf(m.Week, slices.DeleteFunc(slices.Clone(m.region[a]), func(c api.Course) bool { return !isFront(c, t, rise) }))
			second := termsOf(m.Week, slices.DeleteFunc(slices.Clone(m.region[b]), func(c api.Course) bool { return !isFront(c, u, rise) }))
			if slices.ContainsFunc(m.lists, func(l []int) bool { return slices.Contains(first, l[a]) && slices.Contains(second, l[b]) }) {
				pairs = append(pairs, []int{t, u})
			}
		}
	}
	return pairs
}

// list returns courses of the region: for a list of levels at the term any courses that have them.
func (m model) list(x dice) []api.Course {
	var all []api.Course
	terms := m.lists[x.IntN(len(m.lists))]
	for i, l := range m.region {
		fitting := slices.DeleteFunc(slices.Clone(l), func(c api.Course) bool { return c.Levels[m.Base.Term] != terms[i] })
		all = append(all, fitting[x.IntN(len(fitting))])
	}
	return all
}
