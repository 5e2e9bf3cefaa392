package century_test

import (
	"fmt"
	"math/big"
	"math/rand/v2"
	"slices"
	"testing"

	"aneroid/api"
)

func span(lo, hi int) api.Span { return api.Span{Lo: lo, Hi: hi} }

func value(time, lo, hi int) api.Value { return api.Value{Time: time, Levels: span(lo, hi)} }

func shift(time, lo, hi int) api.Shift { return api.Shift{Time: time, Levels: span(lo, hi)} }

func values(l ...api.Value) api.Series { return api.Series{Values: l} }

// example and neighbour are the series of the chapter's examples.
func example() api.Series {
	s := values(value(0, 100, 102), value(1, 101, 101), value(3, 90, 95))
	s.Shifts = []api.Shift{shift(2, -5, 0)}
	return s
}

func neighbour() api.Series {
	return values(value(0, 100, 100), value(1, 100, 100), value(3, 100, 100))
}

// largest is as many values and shifts as there may be, at the upper limits.
func largest() api.Series {
	var s api.Series
	for i := range api.MaxYears {
		s.Values = append(s.Values, value(api.MaxWeek-api.MaxYears+1+i, 0, 2*api.MaxLevel))
	}
	for i := range api.MaxShifts {
		s.Shifts = append(s.Shifts, shift(api.MaxWeek-3*i%2, -api.MaxLevel, api.MaxLevel))
	}
	slices.SortFunc(s.Shifts, func(a, b api.Shift) int { return a.Time - b.Time })
	return s
}

// cloned returns the same series in new memory.
func cloned(s api.Series) api.Series {
	return api.Series{Values: slices.Clone(s.Values), Shifts: slices.Clone(s.Shifts)}
}

func equal(a, b api.Series) bool {
	return slices.Equal(a.Values, b.Values) && slices.Equal(a.Shifts, b.Shifts)
}

// must returns the value of a call that must return no error.
func must[T any](value T, e api.Errno) T {
	if e != api.OK {
		panic(e)
	}
	return value
}

// pair is what calls with two results return beside the error.
type pair[T any] struct{ low, high T }

func both[T any](low, high T, e api.Errno) (pair[T], api.Errno) { return pair[T]{low, high}, e }

// enough fails a test that would have gone through too little.
func enough(t *testing.T, seen, least int) {
	t.Helper()
	if seen < least {
		t.Error("only", seen, "of at least", least)
	}
}

func rat(r api.Ratio) *big.Rat { return big.NewRat(int64(r.Num), int64(r.Den)) }

// isLowest reports whether a fraction is in lowest terms with a denominator above 0.
func isLowest(r api.Ratio) bool {
	return r.Den > 0 && rat(r).Num().Int64() == int64(r.Num) && rat(r).Denom().Int64() == int64(r.Den)
}

func isWithin(x *big.Rat, p pair[api.Ratio]) bool {
	return rat(p.low).Cmp(x) <= 0 && x.Cmp(rat(p.high)) <= 0
}

func contains(s api.Span, n int) bool { return s.Lo <= n && n <= s.Hi }

// dice gives the same numbers in every run.
type dice struct{ *rand.Rand }

func newDice(seed uint64) dice { return dice{rand.New(rand.NewPCG(seed, 8))} }

func (d dice) from(lo, hi int) int { return lo + d.IntN(hi-lo+1) }

func (d dice) span(lo, hi, wide int) api.Span {
	least := d.from(lo, hi)
	return span(least, least+d.from(0, wide))
}

// A kind says how random series are: how many values and shifts they have at most, how far apart their levels and times are, and how wide their spans.
type kind struct{ values, shifts, levels, gap, wide int }

func small() kind { return kind{values: 4, shifts: 3, levels: 4, gap: 2, wide: 2} }

func medium() kind { return kind{values: 12, shifts: 6, levels: 12, gap: 4, wide: 6} }

func (d dice) series(k kind) api.Series {
	s := values(d.values(k)...)
	s.Shifts = d.shifts(k)
	return s
}

func (d dice) values(k kind) []api.Value {
	var l []api.Value
	time := d.from(0, 2)
	for range d.from(0, k.values) {
		l = append(l, api.Value{Time: time, Levels: d.span(0, k.levels, k.wide)})
		time += 1 + d.IntN(max(k.gap, 1))
	}
	return l
}

// shifts returns shifts from the time 0 to beyond the last value, often some of one time.
func (d dice) shifts(k kind) []api.Shift {
	var l []api.Shift
	time := d.from(0, 2)
	for range d.from(0, k.shifts) {
		l = append(l, api.Shift{Time: time, Levels: d.span(-k.levels/2-k.wide/2, k.levels/2, k.wide)})
		time += d.from(0, 1+k.values*k.gap/3)
	}
	return l
}

// times returns a span of times with some of the values of random series.
func (d dice) times(k kind) api.Span {
	lo := d.from(0, k.values*k.gap*2/3)
	return span(lo, d.from(lo, k.values*k.gap))
}

// agreeing returns levels and shifts that agree.
func (d dice) agreeing(s api.Series) (levels, shifts []int) {
	for _, v := range s.Values {
		levels = append(levels, d.from(v.Levels.Lo, v.Levels.Hi))
	}
	for _, x := range s.Shifts {
		shifts = append(shifts, d.from(x.Levels.Lo, x.Levels.Hi))
	}
	return levels, shifts
}

// expectSame compares what is told; it does not tell a nil slice from an empty one.
func expectSame(t *testing.T, what string, got, want any) {
	t.Helper()
	if a, b := fmt.Sprintf("%T%v", got, got), fmt.Sprintf("%T%v", want, want); a != b {
		t.Errorf("%s: %s, not %s", what, a, b)
	}
}
