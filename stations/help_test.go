package stations_test

import (
	"math"
	"math/rand/v2"
	"slices"
	"testing"

	"aneroid/api"
)

func span(lo, hi int) api.Span { return api.Span{Lo: lo, Hi: hi} }

func height(week, lo, hi int) api.Height { return api.Height{Week: week, Metres: span(lo, hi)} }

func station(id, x, y int, heights ...api.Height) api.Station {
	return api.Station{ID: id, X: x, Y: y, Heights: heights}
}

// example and exampleWind are the stations and the wind of the chapter's examples.
func example() []api.Station {
	return []api.Station{
		station(1, 0, 0, height(0, 100, 100)),
		station(2, 3, 4, height(0, 0, 0), height(50, 80, 160)),
		station(3, 6, 8, height(0, 400, 400)),
	}
}

func exampleWind() api.Wind { return api.Wind{Fixed: 0, Each: 30} }

// largest is as many stations as there may be, with numbers at the upper limits.
func largest() []api.Station {
	var l []api.Station
	for i := range api.MaxStations {
		s := station(api.MaxID-api.MaxStations+1+i, api.MaxMap*(i%2), api.MaxMap*(i/2%2))
		for k := range api.MaxMoves {
			week := 0
			if k > 0 {
				week = api.MaxWeek - api.MaxMoves + 1 + k
			}
			s.Heights = append(s.Heights, height(week, k, api.MaxHeight))
		}
		l = append(l, s)
	}
	return l
}

// badPlaces are stations with one wrong number beside the heights, and one with wrong heights as well.
func badPlaces() []api.Station {
	var l []api.Station
	for _, spoil := range []func(s *api.Station){
		func(s *api.Station) { s.ID = 0 },
		func(s *api.Station) { s.ID = -1 },
		func(s *api.Station) { s.ID = api.MaxID + 1 },
		func(s *api.Station) { s.ID = math.MinInt },
		func(s *api.Station) { s.ID = math.MaxInt },
		func(s *api.Station) { s.X = -1 },
		func(s *api.Station) { s.X = api.MaxMap + 1 },
		func(s *api.Station) { s.X = math.MinInt },
		func(s *api.Station) { s.Y = -1 },
		func(s *api.Station) { s.Y = api.MaxMap + 1 },
		func(s *api.Station) { s.Y = math.MaxInt },
		func(s *api.Station) { s.Y = -1; s.Heights = nil },
	} {
		s := example()[1]
		spoil(&s)
		l = append(l, s)
	}
	return l
}

// badHeights are stations that are right but for their heights.
func badHeights() []api.Station {
	var many []api.Height
	for i := range api.MaxMoves + 1 {
		many = append(many, height(i, 0, 0))
	}
	var l []api.Station
	for _, heights := range [][]api.Height{
		nil,
		{},
		many,
		{height(1, 0, 0)},
		{height(-1, 0, 0)},
		{height(math.MinInt, 0, 0), height(0, 0, 0)},
		{height(0, 0, 0), height(0, 1, 1)},
		{height(0, 0, 0), height(2, 1, 1), height(2, 2, 2)},
		{height(0, 0, 0), height(3, 1, 1), height(2, 2, 2)},
		{height(0, 0, 0), height(api.MaxWeek+1, 1, 1)},
		{height(0, 0, 0), height(math.MaxInt, 1, 1)},
		{height(0, -1, 0)},
		{height(0, 1, 0)},
		{height(0, 0, api.MaxHeight+1)},
		{height(0, 0, 0), height(1, math.MinInt, math.MaxInt)},
		{height(0, 0, 0), height(1, math.MaxInt, math.MinInt)},
	} {
		l = append(l, station(2, 3, 4, heights...))
	}
	return l
}

func badWinds() []api.Wind {
	return []api.Wind{
		{Fixed: -1}, {Fixed: api.MaxLevel + 1}, {Each: -1}, {Each: 10001},
		{Fixed: math.MinInt}, {Fixed: math.MaxInt}, {Each: math.MinInt}, {Each: math.MaxInt},
	}
}

func noWeeks() []int { return []int{-1, api.MaxWeek + 1, math.MinInt, math.MaxInt} }

func noLevels() []int { return []int{-1, api.MaxLevel + 1, math.MinInt, math.MaxInt} }

// noLists are no lists of levels of the three stations of the examples.
func noLists() [][]int {
	l := [][]int{nil, {}, {10000, 10000}, {10000, 10000, 10000, 10000}}
	for _, n := range noLevels() {
		l = append(l, []int{n, 10000, 10000}, []int{10000, n, 10000}, []int{10000, 10000, n})
	}
	return l
}

// must returns the value of a call that must return no error.
func must[T any](value T, e api.Errno) T {
	if e != api.OK {
		panic(e)
	}
	return value
}

// zero and zeroList tell whether a result has only its zero value beside the error.
func zero[T comparable](value T, e api.Errno) (bool, api.Errno) {
	var none T
	return value == none, e
}

func zeroList[T any](l []T, e api.Errno) (bool, api.Errno) { return len(l) == 0, e }

func expectError(t *testing.T, zero bool, e, want api.Errno) {
	t.Helper()
	if e != want || !zero {
		t.Error(e, zero, "not", want)
	}
}

func expectList(t *testing.T, l []int, e api.Errno, want ...int) {
	t.Helper()
	if e != api.OK || !slices.Equal(l, want) {
		t.Error(l, e, "not", want)
	}
}

// enough fails a test that would have gone through too little.
func enough(t *testing.T, seen, least int) {
	t.Helper()
	if seen < least {
		t.Error("only", seen, "of at least", least)
	}
}

// dice gives the same numbers in every run.
type dice struct{ *rand.Rand }

func newDice(seed uint64) dice { return dice{rand.New(rand.NewPCG(seed, 5))} }

func (d dice) from(lo, hi int) int { return lo + d.IntN(hi-lo+1) }

// heights returns right heights that are nearly the same in all weeks; wide is by how much their ends differ at most.
func (d dice) heights(wide int) []api.Height {
	var l []api.Height
	base := d.from(0, 500)
	for week := 0; len(l) == 0 || len(l) < 4 && d.IntN(2) == 0; week += d.from(1, 5) {
		lo := base + d.from(0, 3)
		l = append(l, height(week, lo, lo+d.from(0, wide)))
	}
	return l
}

// A situation is stations near to one another, a wind, a week, and levels that are about the same at the sea.
type situation struct {
	wind   api.Wind
	l      []api.Station
	week   int
	levels []int
}

func (d dice) situation(count, wide int) situation {
	s := situation{wind: d.wind(), l: d.stations(count, wide), week: d.from(0, 20)}
	s.levels = d.levels(s)
	return s
}

func (d dice) wind() api.Wind {
	return api.Wind{Fixed: d.from(0, 2) * d.from(0, 1), Each: d.from(0, 60)}
}

// stations returns stations of which some may stand at one place, and many on a line.
func (d dice) stations(count, wide int) []api.Station {
	var l []api.Station
	id, flat := 0, d.IntN(2)
	for range count {
		id += d.from(1, 3)
		l = append(l, station(id, d.from(0, 12), flat*d.from(0, 12), d.heights(wide)...))
	}
	return l
}

func (d dice) levels(s situation) []int {
	spread := d.from(0, 8)
	levels := make([]int, len(s.l))
	for i, x := range s.l {
		at := heightsOf(x, s.week)
		levels[i] = (10000 + d.from(-spread, spread)) * 8000 / (8000 + d.from(at.Lo, at.Hi))
	}
	return levels
}

// The following functions are the words of the chapter.

func heightsOf(s api.Station, week int) api.Span {
	var at api.Span
	for _, h := range s.Heights {
		if h.Week <= week {
			at = h.Metres
		}
	}
	return at
}

func seaOf(level, height int) int { return level + level*height/8000 }

func seasOf(level int, heights api.Span) api.Span {
	return span(seaOf(level, heights.Lo), seaOf(level, heights.Hi))
}

func distanceOf(a, b api.Station) int {
	x, y, d := a.X-b.X, a.Y-b.Y, 0
	for d*d < x*x+y*y {
		d++
	}
	return d
}

func boundOf(w api.Wind, a, b api.Station) int {
	if a.ID == b.ID {
		return 0
	}
	return w.Fixed + w.Each*distanceOf(a, b)/100
}

func lengthOf(w api.Wind, l []api.Station, way []int) int {
	sum := 0
	for i := 1; i < len(way); i++ {
		sum += boundOf(w, l[way[i-1]], l[way[i]])
	}
	return sum
}

// waysOf yields all ways between two stations that come to no station twice.
func waysOf(l []api.Station, a, b int, yield func(way []int)) {
	way := []int{a}
	var walk func()
	walk = func() {
		if way[len(way)-1] == b {
			yield(way)
			return
		}
		for i := range l {
			if !slices.Contains(way, i) {
				way = append(way, i)
				walk()
				way = way[:len(way)-1]
			}
		}
	}
	walk()
}

// keepWind reports whether sea levels keep the wind.
func keepWind(w api.Wind, l []api.Station, seas []int) bool {
	for i := range l {
		for k := range i {
			if max(seas[i]-seas[k], seas[k]-seas[i]) > boundOf(w, l[i], l[k]) {
				return false
			}
		}
	}
	return true
}

// areSeas reports whether sea levels are some of the levels of a situation.
func areSeas(s situation, seas []int) bool {
	for i, x := range s.l {
		if at := seasOf(s.levels[i], heightsOf(x, s.week)); seas[i] < at.Lo || seas[i] > at.Hi {
			return false
		}
	}
	return len(seas) == len(s.l) && keepWind(s.wind, s.l, seas)
}

// allSeas returns all sea levels of the levels of a situation, by going through all lists.
func allSeas(s situation) [][]int {
	var all [][]int
	seas := make([]int, len(s.l))
	var fill func(at int)
	fill = func(at int) {
		if at == len(seas) {
			if keepWind(s.wind, s.l, seas) {
				all = append(all, slices.Clone(seas))
			}
			return
		}
		mine := seasOf(s.levels[at], heightsOf(s.l[at], s.week))
		for n := mine.Lo; n <= mine.Hi; n++ {
			seas[at] = n
			fill(at + 1)
		}
	}
	fill(0)
	return all
}

// combine returns, for each index, what a function makes of the numbers of lists, in increasing order.
func combine(pick func(sorted []int) int, lists ...[]int) []int {
	var l []int
	for i := range lists[0] {
		var numbers []int
		for _, list := range lists {
			numbers = append(numbers, list[i])
		}
		slices.Sort(numbers)
		l = append(l, pick(numbers))
	}
	return l
}

func least(sorted []int) int { return sorted[0] }

func middle(sorted []int) int { return sorted[len(sorted)/2] }

func greatest(sorted []int) int { return sorted[len(sorted)-1] }

// without returns a list without one of its elements.
func without[T any](l []T, at int) []T { return slices.Delete(slices.Clone(l), at, at+1) }
