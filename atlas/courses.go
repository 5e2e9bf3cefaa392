package atlas

import (
	"slices"
	"sync"

	"aneroid/api"
	"aneroid/stations"
	"aneroid/weeks"
)

// workers is how many goroutines there are at most: each of them holds all states of a sheet at all ticks.
const workers = 8

// each does some work for all indices below a count, in goroutines, and waits until all is done.
func each(count int, work func(i int)) {
	var all sync.WaitGroup
	for first := range min(count, workers) {
		all.Add(1)
		go func() {
			defer all.Done()
			for i := first; i < count; i += workers {
				work(i)
			}
		}()
	}
	all.Wait()
}

// reach adds to what is told of the sheets of a whole week courses of the region that reach both ends of it.
func reach(w api.Week, shown []api.Shown) {
	terms, _ := weeks.Terms(w)
	seekers := make([]seeker, len(shown))
	each(len(shown), func(i int) { seekers[i] = seekerOf(w, i, terms[i]) })
	each(2*len(shown), func(i int) {
		s, by := &shown[i/2], seekers[i/2]
		if i%2 == 0 {
			s.Least = by.seek(least(s.Levels))
		} else {
			s.Most = by.seek(greatest(s.Levels))
		}
	})
}

// least returns the least level of each tick; there is one.
func least(levels [][]api.Span) []int {
	l := make([]int, len(levels))
	for tick, set := range levels {
		l[tick] = set[0].Lo
	}
	return l
}

// greatest returns the greatest level of each tick; there is one.
func greatest(levels [][]api.Span) []int {
	l := make([]int, len(levels))
	for tick, set := range levels {
		l[tick] = set[len(set)-1].Hi
	}
	return l
}

// A seeker finds courses of the region of a whole week in which a sheet has some level.
type seeker struct {
	week   api.Week
	sheet  int
	sights []sight
}

// A sight is a week that has one sheet alone, with one zero of its pen, and only some of the levels at the term that it has in the region; and the levels of that week. A course in it is much faster to find than courses of the region, and it is in some of them, as the other sheets depend on the level at the term alone.
type sight struct {
	week   api.Week
	levels [][]api.Span
}

// seekerOf returns the seeker of a sheet, of which the levels at the term in all courses of the region are known.
func seekerOf(w api.Week, sheet int, terms []api.Span) seeker {
	s := seeker{week: w, sheet: sheet}
	zeros, _ := weeks.Zeros(w, sheet)
	for _, zero := range zeros {
		for _, term := range terms {
			alone := aloneIn(w, sheet, zero, term)
			// There is an error if there are no courses, or one reading too many.
			if levels, e := weeks.Levels(alone, 0); e == api.OK {
				s.sights = append(s.sights, sight{alone, levels})
			}
		}
	}
	return s
}

// aloneIn returns the week that has a sheet alone, with a zero, and levels at the term that agree with all readings there.
func aloneIn(w api.Week, sheet, zero int, term api.Span) api.Week {
	f := w.Sheets[sheet]
	f.Sheet.Pen.Zero = api.Span{Lo: zero, Hi: zero}
	reads := []api.Read{{Station: f.Station, Week: w.Week, Tick: w.Base.Term, Levels: term}}
	for _, r := range w.Reads {
		if r.Station == f.Station && r.Tick != w.Base.Term {
			reads = append(reads, r)
		}
	}
	w.Sheets, w.Reads = []api.Filed{f}, reads
	return w
}

// seek returns for each tick courses of the region in which the sheet has a level there; for all of these there are some.
func (s seeker) seek(levels []int) [][]api.Course {
	found := make([][]api.Course, len(levels))
	around := s.around()
	for tick, level := range levels {
		hasLevel := func(l []api.Course) bool { return l[s.sheet].Levels[tick] == level }
		if i := slices.IndexFunc(found[:tick], hasLevel); i >= 0 {
			found[tick] = copyEach(found[i], copyCourse)
			continue
		}
		c, ok := s.own(tick, level)
		if !ok {
			found[tick], _ = weeks.Courses(s.week, s.sheet, tick, level)
			continue
		}
		found[tick] = around(c)
	}
	return found
}

// own returns a course of the sheet that has a level at a tick, if one is in sight.
func (s seeker) own(tick, level int) (api.Course, bool) {
	for _, v := range s.sights {
		if isIn(v.levels[tick], level) {
			l, _ := weeks.Courses(v.week, 0, tick, level)
			return l[0], true
		}
	}
	return api.Course{}, false
}

// around returns a function that returns courses of the region with a course of the sheet; it keeps those of the other sheets, as they often do for many of them.
func (s seeker) around() func(c api.Course) []api.Course {
	var known [][]api.Course
	return func(c api.Course) []api.Course {
		for _, l := range known {
			l[s.sheet] = c
			if areTogether(s.week, l) {
				return copyEach(l, copyCourse)
			}
		}
		term := s.week.Base.Term
		l, _ := weeks.Courses(s.week, s.sheet, term, c.Levels[term])
		l[s.sheet] = c
		known = append(known, l)
		return copyEach(l, copyCourse)
	}
}

// areTogether reports whether the levels of courses at the term can be at one time.
func areTogether(w api.Week, l []api.Course) bool {
	var places []api.Station
	var levels []int
	for i, f := range w.Sheets {
		at, _ := stations.StationOf(w.Base.Stations, f.Station)
		places = append(places, w.Base.Stations[at])
		levels = append(levels, l[i].Levels[w.Base.Term])
	}
	ok, _ := stations.Keeps(w.Base.Wind, places, w.Week, levels)
	return ok
}

func isIn(set []api.Span, n int) bool {
	return slices.ContainsFunc(set, func(s api.Span) bool { return s.Lo <= n && n <= s.Hi })
}
