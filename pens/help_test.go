package pens_test

import (
	"math"
	"math/rand/v2"
	"slices"
	"testing"

	"aneroid/api"
)

// most is the greatest level, and -most is the least one.
const most = 50000

func span(lo, hi int) api.Span { return api.Span{Lo: lo, Hi: hi} }

func moment(shown, real int) api.Moment { return api.Moment{Shown: shown, Real: real} }

func edge(to, lo, hi int) api.Edge { return api.Edge{To: to, Change: span(lo, hi)} }

func pen(band, rate int) api.Pen { return api.Pen{Band: band, Rate: rate} }

// example is the pen of the chapter's examples.
func example() api.Pen { return api.Pen{Band: 2, Zero: span(-1, 1), Rate: 5} }

// largest is a pen with all its numbers at the upper limits.
func largest() api.Pen {
	return api.Pen{Band: api.MaxBand, Zero: span(160, api.MaxZero), Rate: api.MaxLevel}
}

// badPens are pens with one wrong number each.
func badPens() []api.Pen {
	var l []api.Pen
	for _, spoil := range []func(p *api.Pen){
		func(p *api.Pen) { p.Band = -1 },
		func(p *api.Pen) { p.Band = api.MaxBand + 1 },
		func(p *api.Pen) { p.Band = math.MaxInt },
		func(p *api.Pen) { p.Zero = span(-201, -200) },
		func(p *api.Pen) { p.Zero = span(200, 201) },
		func(p *api.Pen) { p.Zero = span(1, 0) },
		func(p *api.Pen) { p.Zero = span(-20, 21) },
		func(p *api.Pen) { p.Zero = span(math.MinInt, math.MaxInt) },
		func(p *api.Pen) { p.Zero = span(math.MaxInt, math.MinInt) },
		func(p *api.Pen) { p.Rate = -1 },
		func(p *api.Pen) { p.Rate = api.MaxLevel + 1 },
		func(p *api.Pen) { p.Rate = math.MinInt },
	} {
		p := example()
		spoil(&p)
		l = append(l, p)
	}
	return l
}

// noLevels are numbers that are no levels, and noLists are lists of which each has one, or that are too short or too long.
func noLevels() []int { return []int{most + 1, -most - 1, math.MinInt, math.MaxInt} }

func noLists() [][]int {
	l := [][]int{nil, {}, make([]int, api.MaxTicks+2)}
	for _, n := range noLevels() {
		l = append(l, []int{n}, []int{n, 10, 10}, []int{10, n, 10}, []int{10, 10, n})
	}
	return l
}

// must returns the value of a call that must return no error.
func must[T any](value T, e api.Errno) T {
	if e != api.OK {
		panic(e)
	}
	return value
}

// dice gives the same numbers in every run.
type dice struct{ *rand.Rand }

func newDice(seed uint64) dice { return dice{rand.New(rand.NewPCG(seed, 3))} }

func (d dice) from(lo, hi int) int { return lo + d.IntN(hi-lo+1) }

// pen returns a pen with small numbers; band is the greatest one that it may have.
func (d dice) pen(band int) api.Pen {
	p := pen(d.from(0, band), d.from(0, 9))
	p.Zero.Lo = d.from(-5, 5)
	p.Zero.Hi = p.Zero.Lo + d.from(0, 10)
	return p
}

// walk returns real levels of which none is more than Rate away from the one before; often they stay near the first one.
func (d dice) walk(p api.Pen, count int) []int {
	l := []int{d.from(-10, 10)}
	wide := d.from(0, 12)
	for len(l) < count {
		last := l[len(l)-1]
		least, greatest := max(last-p.Rate, l[0]-wide), min(last+p.Rate, l[0]+wide)
		l = append(l, d.from(least, greatest))
	}
	return l
}

// steps returns levels with any small changes.
func (d dice) steps(count, change int) []int {
	l := []int{d.from(-5, 5)}
	for len(l) < count {
		l = append(l, l[len(l)-1]+d.from(-change, change))
	}
	return l
}

// first returns a number that a pen may show at the first one of real levels.
func (d dice) first(p api.Pen, real []int) int { return real[0] + d.from(-p.Band, p.Band) }

// isRight, follows and law are the words of the chapter.
func isRight(p api.Pen, m api.Moment) bool { return distance(m.Real, m.Shown) <= p.Band }

func follows(p api.Pen, before, m api.Moment) bool {
	return distance(m.Real, before.Real) <= p.Rate && m.Shown == law(p, before.Shown, m.Real)
}

func law(p api.Pen, shown, real int) int {
	if distance(real, shown) <= p.Band {
		return shown
	}
	if real > shown+p.Band {
		return real - p.Band
	}
	return real + p.Band
}

func distance(a, b int) int { return max(a-b, b-a) }

// mayBe reports whether real levels may be shown as a list.
func mayBe(p api.Pen, shown, real []int) bool {
	for i := range real {
		m := moment(shown[i], real[i])
		if !isRight(p, m) || i > 0 && !follows(p, moment(shown[i-1], real[i-1]), m) {
			return false
		}
	}
	return len(shown) == len(real)
}

// shownOf returns what is shown of real levels, by the law alone.
func shownOf(p api.Pen, first int, real []int) []int {
	l := []int{first}
	for _, n := range real[1:] {
		l = append(l, law(p, l[len(l)-1], n))
	}
	return l
}

// lines yields all lists whose numbers are at most a band away from those of a list.
func lines(l []int, band int, yield func(line []int)) {
	line := make([]int, len(l))
	var fill func(at int)
	fill = func(at int) {
		if at == len(l) {
			yield(line)
			return
		}
		for n := l[at] - band; n <= l[at]+band; n++ {
			line[at] = n
			fill(at + 1)
		}
	}
	fill(0)
}

// realsOf returns all real levels that may be shown as a list, by going through all that are right.
func realsOf(p api.Pen, shown []int) [][]int {
	var all [][]int
	lines(shown, p.Band, func(real []int) {
		if mayBe(p, shown, real) {
			all = append(all, slices.Clone(real))
		}
	})
	return all
}

// spread returns the swing of a list, as one number.
func spread(l []int) int { return slices.Max(l) - slices.Min(l) }

// moved returns the sum of all differences of neighbours.
func moved(l []int) int {
	sum := 0
	for i := 1; i < len(l); i++ {
		sum += distance(l[i], l[i-1])
	}
	return sum
}

// pick returns the numbers at some indices.
func pick(l, indices []int) []int {
	var picked []int
	for _, i := range indices {
		picked = append(picked, l[i])
	}
	return picked
}

// opposite returns a list with all numbers multiplied by -1.
func opposite(l []int) []int {
	var turned []int
	for _, n := range l {
		turned = append(turned, -n)
	}
	return turned
}

// middles returns for each index the middle one of the numbers of lists.
func middles(lists ...[]int) []int {
	var l []int
	for i := range lists[0] {
		var numbers []int
		for _, list := range lists {
			numbers = append(numbers, list[i])
		}
		slices.Sort(numbers)
		l = append(l, numbers[len(numbers)/2])
	}
	return l
}

// enough fails a test that would have gone through too little.
func enough(t *testing.T, seen, least int) {
	t.Helper()
	if seen < least {
		t.Error("only", seen, "of at least", least)
	}
}

// expectList and expectError check the result of a call that returns a list, or an error and nothing beside it.
func expectList[T comparable](t *testing.T, l []T, e api.Errno, want ...T) {
	t.Helper()
	if e != api.OK || !slices.Equal(l, want) {
		t.Error(l, e, "not", want)
	}
}

func expectError(t *testing.T, zero bool, e, want api.Errno) {
	t.Helper()
	if e != want || !zero {
		t.Error(e, zero, "not", want)
	}
}
