package clocks_test

import (
	"math"
	"math/rand/v2"
	"slices"
	"testing"

	"aneroid/api"
	"aneroid/clocks"
)

func span(lo, hi int) api.Span { return api.Span{Lo: lo, Hi: hi} }

func stop(column, lo, hi int) api.Stop { return api.Stop{Column: column, Ticks: span(lo, hi)} }

func mark(column, lo, hi int) api.Mark { return api.Mark{Column: column, Ticks: span(lo, hi)} }

// example is the drum of the chapter's examples, and marks are its marks.
func example() api.Drum {
	return api.Drum{Rates: []api.Span{span(2, 3), span(2, 3), span(1, 4)}, Stops: []api.Stop{stop(1, 0, 5)}}
}

func marks() []api.Mark { return []api.Mark{mark(0, 10, 12), mark(3, 20, 22)} }

// clashing are the marks of the examples, with the further one that contradicts both.
func clashing() []api.Mark { return append(marks(), mark(2, 10, 13)) }

// slow is a valid drum that needs more than MaxTicks ticks, even without marks.
func slow() api.Drum {
	return api.Drum{Rates: []api.Span{span(1, 1), span(1, 1)}, Stops: []api.Stop{stop(0, 200, 400), stop(1, 199, 400)}}
}

// largest is a drum with all its numbers at the upper limits, but for the Lo of each rate and stop.
func largest() api.Drum {
	return api.Drum{Rates: slices.Repeat([]api.Span{span(1, api.MaxRate)}, api.MaxColumns-1), Stops: slices.Repeat([]api.Stop{stop(api.MaxColumns-2, 0, api.MaxTicks)}, api.MaxStops)}
}

// badDrums are drums with one wrong number each.
func badDrums() []api.Drum {
	var l []api.Drum
	for _, spoil := range []func(d *api.Drum){
		func(d *api.Drum) { d.Rates, d.Stops = nil, nil },
		func(d *api.Drum) { d.Rates = slices.Repeat([]api.Span{span(1, 1)}, api.MaxColumns) },
		func(d *api.Drum) { d.Rates[1].Lo = 0 },
		func(d *api.Drum) { d.Rates[2] = span(3, 2) },
		func(d *api.Drum) { d.Rates[0].Hi = api.MaxRate + 1 },
		func(d *api.Drum) { d.Rates[0] = span(math.MinInt, math.MaxInt) },
		func(d *api.Drum) { d.Rates[0] = span(math.MaxInt, math.MinInt) },
		func(d *api.Drum) { d.Stops = slices.Repeat(d.Stops, api.MaxStops+1) },
		func(d *api.Drum) { d.Stops[0].Column = -1 },
		func(d *api.Drum) { d.Stops[0].Column = 3 },
		func(d *api.Drum) { d.Stops[0].Column = math.MaxInt },
		func(d *api.Drum) { d.Stops[0].Ticks.Lo = -1 },
		func(d *api.Drum) { d.Stops[0].Ticks = span(6, 5) },
		func(d *api.Drum) { d.Stops[0].Ticks.Hi = api.MaxTicks + 1 },
		func(d *api.Drum) { d.Stops[0].Ticks = span(math.MinInt, math.MaxInt) },
	} {
		d := example()
		spoil(&d)
		l = append(l, d)
	}
	return l
}

// badMarks are marks of which each is not valid for the drum of the examples.
func badMarks() []api.Mark {
	return []api.Mark{mark(-1, 0, 1), mark(4, 0, 1), mark(0, -1, 1), mark(0, 2, 1), mark(3, 0, api.MaxTicks+1), mark(math.MinInt, math.MinInt, math.MaxInt), mark(0, math.MaxInt, math.MinInt)}
}

// none are numbers that are neither a column nor a tick.
func none() []int { return []int{-1, api.MaxTicks + 1, math.MinInt, math.MaxInt} }

// A call is a function of the chapter that is called with a drum and marks. Its result counts as zero if it has only zero values beside the error.
type call struct {
	name  string
	times bool // it returns ErrTime if there is no reading
	do    func(d api.Drum, m []api.Mark) (zero bool, e api.Errno)
}

// calls are all functions with marks but CheckMarks, with valid further arguments for the drum of the examples.
func calls() []call {
	return []call{
		{"Keeps", true, func(d api.Drum, m []api.Mark) (bool, api.Errno) { return true, clocks.Keeps(d, m, nil) }},
		{"Feasible", false, func(d api.Drum, m []api.Mark) (bool, api.Errno) {
			ok, e := clocks.Feasible(d, m)
			return !ok, e
		}},
		{"Earliest", true, func(d api.Drum, m []api.Mark) (bool, api.Errno) { return zeroList(clocks.Earliest(d, m)) }},
		{"Latest", true, func(d api.Drum, m []api.Mark) (bool, api.Errno) { return zeroList(clocks.Latest(d, m)) }},
		{"Span", true, func(d api.Drum, m []api.Mark) (bool, api.Errno) { return zeroSpan(clocks.Span(d, m, 0)) }},
		{"Between", true, func(d api.Drum, m []api.Mark) (bool, api.Errno) { return zeroSpan(clocks.Between(d, m, 0, 1)) }},
		{"With", true, func(d api.Drum, m []api.Mark) (bool, api.Errno) { return zeroList(clocks.With(d, m, 0, 10)) }},
		{"At", true, func(d api.Drum, m []api.Mark) (bool, api.Errno) { return zeroSpan(clocks.At(d, m, 0)) }},
		{"Median", true, func(d api.Drum, m []api.Mark) (bool, api.Errno) { return zeroList(clocks.Median(d, m, nil, nil, nil)) }},
		{"Agree", false, func(d api.Drum, m []api.Mark) (bool, api.Errno) {
			ok, e := clocks.Agree(d, m[0], m[len(m)-1])
			return !ok, e
		}},
		{"Contradiction", false, func(d api.Drum, m []api.Mark) (bool, api.Errno) { return zeroList(clocks.Contradiction(d, m)) }},
		{"Pairs", false, func(d api.Drum, m []api.Mark) (bool, api.Errno) { return zeroList(clocks.Pairs(d, m)) }},
		{"Drops", false, func(d api.Drum, m []api.Mark) (bool, api.Errno) { return zeroList(clocks.Drops(d, m)) }},
		{"Run", true, func(d api.Drum, m []api.Mark) (bool, api.Errno) { return zeroList(clocks.Run(d, m, 10)) }},
		{"Drift", true, func(d api.Drum, m []api.Mark) (bool, api.Errno) { return zeroRatios(clocks.Drift(d, m, 0, 1)) }},
	}
}

// wrong are the calls with a column or a tick that is none.
func wrong() []call {
	var l []call
	add := func(name string, do func(d api.Drum, m []api.Mark) (bool, api.Errno)) {
		l = append(l, call{name, true, do})
	}
	for _, n := range append(none(), 4) {
		add("Span", func(d api.Drum, m []api.Mark) (bool, api.Errno) { return zeroSpan(clocks.Span(d, m, n)) })
		add("Between", func(d api.Drum, m []api.Mark) (bool, api.Errno) { return zeroSpan(clocks.Between(d, m, n, 0)) })
		add("Between", func(d api.Drum, m []api.Mark) (bool, api.Errno) { return zeroSpan(clocks.Between(d, m, 0, n)) })
		add("With", func(d api.Drum, m []api.Mark) (bool, api.Errno) { return zeroList(clocks.With(d, m, n, 10)) })
		add("Drift", func(d api.Drum, m []api.Mark) (bool, api.Errno) { return zeroRatios(clocks.Drift(d, m, n, 3)) })
		add("Drift", func(d api.Drum, m []api.Mark) (bool, api.Errno) { return zeroRatios(clocks.Drift(d, m, 0, n)) })
	}
	for _, n := range none() {
		add("With", func(d api.Drum, m []api.Mark) (bool, api.Errno) { return zeroList(clocks.With(d, m, 0, n)) })
		add("At", func(d api.Drum, m []api.Mark) (bool, api.Errno) { return zeroSpan(clocks.At(d, m, n)) })
		add("Run", func(d api.Drum, m []api.Mark) (bool, api.Errno) { return zeroList(clocks.Run(d, m, n)) })
	}
	add("Drift", func(d api.Drum, m []api.Mark) (bool, api.Errno) { return zeroRatios(clocks.Drift(d, m, 1, 1)) })
	add("Drift", func(d api.Drum, m []api.Mark) (bool, api.Errno) { return zeroRatios(clocks.Drift(d, m, 2, 1)) })
	return l
}

func zeroList[T any](l []T, e api.Errno) (bool, api.Errno) { return len(l) == 0, e }

func zeroSpan(s api.Span, e api.Errno) (bool, api.Errno) { return s == api.Span{}, e }

func zeroRatios(low, high api.Ratio, e api.Errno) (bool, api.Errno) {
	return low == api.Ratio{} && high == api.Ratio{}, e
}

// must returns the value of a call that must return no error.
func must[T any](v T, e api.Errno) T {
	if e != api.OK {
		panic(e)
	}
	return v
}

// dice gives the same numbers in every run.
type dice struct{ *rand.Rand }

func newDice(seed uint64) dice { return dice{rand.New(rand.NewPCG(seed, 2))} }

func (d dice) from(lo, hi int) int { return lo + d.IntN(hi-lo+1) }

// spanIn returns a span that begins within bounds, and has few numbers.
func (d dice) spanIn(lo, hi, width int) api.Span {
	a := d.from(lo, hi)
	return span(a, a+d.from(0, width))
}

// drum returns a drum of few columns that has few readings: it has few columns, or a stop that fills most ticks.
func (d dice) drum() api.Drum {
	var x api.Drum
	if d.IntN(4) == 0 {
		for range d.from(1, 2) {
			x.Rates = append(x.Rates, d.spanIn(1, 37, 3))
		}
		if d.IntN(2) == 0 {
			x.Stops = append(x.Stops, api.Stop{Column: d.IntN(len(x.Rates)), Ticks: d.spanIn(0, 30, 2)})
		}
		return x
	}
	for range d.from(1, 4) {
		x.Rates = append(x.Rates, d.spanIn(1, 6, 3))
	}
	for range d.from(0, 2) {
		x.Stops = append(x.Stops, api.Stop{Column: d.IntN(len(x.Rates)), Ticks: d.spanIn(0, 2, 2)})
	}
	left := api.MaxTicks
	for c := range x.Rates {
		left -= must(clocks.Gap(x, c)).Lo
	}
	x.Stops = append(x.Stops, api.Stop{Column: d.IntN(len(x.Rates)), Ticks: d.spanIn(left-12, left, 1)})
	x.Stops[len(x.Stops)-1].Ticks.Hi = min(x.Stops[len(x.Stops)-1].Ticks.Hi, api.MaxTicks)
	return x
}

// marks returns marks near to readings, one for each, or near to one of them.
func (d dice) marks(x api.Drum, readings [][]int, count int) []api.Mark {
	var l []api.Mark
	var one []int
	if len(readings) > 0 && d.IntN(2) == 0 {
		one = readings[d.IntN(len(readings))]
	}
	for range count {
		at, c := d.from(0, api.MaxTicks), d.IntN(len(x.Rates)+1)
		if one != nil {
			at = one[c] + d.from(-2, 0)
		} else if len(readings) > 0 && d.IntN(8) > 0 {
			at = readings[d.IntN(len(readings))][c] + d.from(-2, 2)
		}
		ticks := d.spanIn(at, at, 6)
		ticks.Lo = min(max(ticks.Lo, 0), api.MaxTicks)
		ticks.Hi = min(max(ticks.Hi, ticks.Lo), api.MaxTicks)
		l = append(l, api.Mark{Column: c, Ticks: ticks})
	}
	return l
}

// readingsOf returns all readings without marks, as the chapter words them.
func readingsOf(d api.Drum) [][]int {
	var all [][]int
	var grow func(ticks []int)
	grow = func(ticks []int) {
		c := len(ticks) - 1
		if c == len(d.Rates) {
			all = append(all, slices.Clone(ticks))
			return
		}
		gap := d.Rates[c]
		for _, s := range d.Stops {
			if s.Column == c {
				gap = span(gap.Lo+s.Ticks.Lo, gap.Hi+s.Ticks.Hi)
			}
		}
		for n := gap.Lo; n <= gap.Hi && ticks[c]+n <= api.MaxTicks; n++ {
			grow(append(ticks, ticks[c]+n))
		}
	}
	for n := 0; n <= api.MaxTicks; n++ {
		grow([]int{n})
	}
	return all
}

func holds(m api.Mark, ticks []int) bool {
	return m.Ticks.Lo <= ticks[m.Column] && ticks[m.Column] <= m.Ticks.Hi
}

// keeping returns those readings that keep some marks.
func keeping(readings [][]int, m ...api.Mark) [][]int {
	var l [][]int
	for _, ticks := range readings {
		if !slices.ContainsFunc(m, func(m api.Mark) bool { return !holds(m, ticks) }) {
			l = append(l, ticks)
		}
	}
	return l
}

// A problem is a drum with marks, and all its readings, without marks and with them.
type problem struct {
	d         api.Drum
	m         []api.Mark
	free, all [][]int
}

// problems returns as many problems; some have no readings, and few none without marks.
func problems(seed uint64, count, marks int) []problem {
	x := newDice(seed)
	var l []problem
	for range count {
		p := problem{d: x.drum()}
		p.free = readingsOf(p.d)
		p.m = x.marks(p.d, p.free, x.from(0, marks))
		p.all = keeping(p.free, p.m...)
		l = append(l, p)
	}
	return l
}

// feasible returns the problems that have readings.
func feasible(l []problem) []problem {
	return slices.DeleteFunc(l, func(p problem) bool { return len(p.all) == 0 })
}

func (p problem) columns() int { return len(p.d.Rates) + 1 }

// numbers returns, in order, the numbers that something of readings has.
func numbers(readings [][]int, of func(ticks []int) int) []int {
	var l []int
	for _, ticks := range readings {
		l = append(l, of(ticks))
	}
	slices.Sort(l)
	return slices.Compact(l)
}

// list returns the numbers of a span.
func list(s api.Span) []int {
	var l []int
	for n := s.Lo; n <= s.Hi; n++ {
		l = append(l, n)
	}
	return l
}

// subsets returns all sets of the numbers less than count, by size, then as lists.
func subsets(count int) [][]int {
	var l [][]int
	for bits := range 1 << count {
		var set []int
		for n := range count {
			if bits>>n&1 == 1 {
				set = append(set, n)
			}
		}
		l = append(l, set)
	}
	slices.SortFunc(l, func(a, b []int) int {
		if len(a) != len(b) {
			return len(a) - len(b)
		}
		return slices.Compare(a, b)
	})
	return l
}

// pick returns the marks of a set.
func pick(m []api.Mark, set []int) []api.Mark {
	var l []api.Mark
	for _, i := range set {
		l = append(l, m[i])
	}
	return l
}

// without returns the marks that are not in a set.
func without(m []api.Mark, set []int) []api.Mark {
	var l []api.Mark
	for i := range m {
		if !slices.Contains(set, i) {
			l = append(l, m[i])
		}
	}
	return l
}

func isSubset(a, b []int) bool {
	return !slices.ContainsFunc(a, func(n int) bool { return !slices.Contains(b, n) })
}

func sameSets(a, b [][]int) bool {
	return slices.EqualFunc(a, b, func(a, b []int) bool { return slices.Equal(a, b) })
}

// isAhead reports whether no tick of a list is greater than that of another one.
func isAhead(a, b []int) bool {
	for i := range a {
		if a[i] > b[i] {
			return false
		}
	}
	return len(a) == len(b)
}

// columnwise returns the list of what a function makes of the ticks of each column.
func columnwise(of func(a, b int) int, a, b []int) []int {
	l := slices.Clone(a)
	for i := range l {
		l[i] = of(l[i], b[i])
	}
	return l
}

func lesser(a, b int) int { return min(a, b) }

func greater(a, b int) int { return max(a, b) }

// enough fails a test that would have gone through too little.
func enough(t *testing.T, seen, least int) {
	t.Helper()
	if seen < least {
		t.Error("only", seen, "of at least", least)
	}
}
