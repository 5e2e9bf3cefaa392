package century_test

import (
	"math/big"
	"slices"
	"testing"

	"aneroid/api"
	"aneroid/century"
)

// TestEnds is P8.2: what is told is compared with all levels and shifts that agree.
func TestEnds(t *testing.T) {
	x := newDice(2)
	rising, falling := 0, 0
	for range 1500 {
		s := x.series(small())
		all := allEvens(s)
		evens := must(century.Evens(s))
		if len(evens) != len(s.Values) {
			t.Fatal(s, evens)
		}
		for i, got := range evens {
			if want := endsOf(all, func(l []int) int { return l[i] }); got != want {
				t.Fatal(s, i, got, want)
			}
		}
		compareMean(t, s, all, x.times(small()))
		if trend := compareSlope(t, s, all); trend > 0 {
			rising++
		} else if trend < 0 {
			falling++
		}
	}
	enough(t, rising, 100)
	enough(t, falling, 100)
}

func compareMean(t *testing.T, s api.Series, all [][]int, times api.Span) {
	t.Helper()
	mean, e := both(century.Mean(s, times))
	if len(pick(s, times, all[0])) == 0 {
		if e != api.ErrNone || mean != (pair[api.Ratio]{}) {
			t.Fatal(s, times, mean, e)
		}
		return
	}
	low, high := rationalEnds(all, func(l []int) *big.Rat { return meanOf(pick(s, times, l)) })
	expectRatios(t, mean, e, low, high)
}

// compareSlope compares Slope, SlopeAt and Trend; it returns the trend.
func compareSlope(t *testing.T, s api.Series, all [][]int) int {
	t.Helper()
	slope, e := both(century.Slope(s))
	if len(s.Values) < 2 {
		if e != api.ErrNone || slope != (pair[api.Ratio]{}) {
			t.Fatal(s, slope, e)
		}
		return 0
	}
	low, high := rationalEnds(all, func(l []int) *big.Rat { return slopeOf(s, l) })
	expectRatios(t, slope, e, low, high)
	expectSlopeAt(t, s, false, low)
	expectSlopeAt(t, s, true, high)
	trend, e := century.Trend(s)
	if e != api.OK || trend != signOf(low, high) {
		t.Fatal(s, trend, e)
	}
	return trend
}

func expectRatios(t *testing.T, got pair[api.Ratio], e api.Errno, low, high *big.Rat) {
	t.Helper()
	if e != api.OK || !isLowest(got.low) || !isLowest(got.high) || rat(got.low).Cmp(low) != 0 || rat(got.high).Cmp(high) != 0 {
		t.Fatal(got, e, low, high)
	}
}

func expectSlopeAt(t *testing.T, s api.Series, high bool, want *big.Rat) {
	t.Helper()
	levels, shifts, e := century.SlopeAt(s, high)
	if e != api.OK || century.Keeps(s, levels, shifts) != api.OK || slopeOf(s, evenOf(s, levels, shifts)).Cmp(want) != 0 {
		t.Fatal(s, high, levels, shifts, e)
	}
}

// TestChanges is the rest of P8.2; spans may overlap, or be in any order.
func TestChanges(t *testing.T) {
	x := newDice(3)
	found := map[int]int{}
	for range 4000 {
		s, a, b := x.series(small()), x.times(small()), x.times(small())
		all := allEvens(s)
		change, e := century.Change(s, a, b)
		if len(pick(s, a, all[0])) == 0 || len(pick(s, b, all[0])) == 0 {
			if e != api.ErrNone || change != 0 {
				t.Fatal(s, a, b, change, e)
			}
			continue
		}
		low, high := rationalEnds(all, func(l []int) *big.Rat {
			return new(big.Rat).Sub(meanOf(pick(s, b, l)), meanOf(pick(s, a, l)))
		})
		if e != api.OK || change != signOf(low, high) {
			t.Fatal(s, a, b, change, e, low, high)
		}
		found[change]++
	}
	enough(t, found[1], 100)
	enough(t, found[-1], 100)
	enough(t, found[0], 100)
}

// TestChangeOfOverlap checks that a value, or a shift, that counts for both means is taken as one number.
func TestChangeOfOverlap(t *testing.T) {
	s := values(value(0, 10, 10), value(1, 0, 100), value(2, 11, 11))
	s.Shifts = []api.Shift{shift(0, -50, 50), shift(3, -50, 50)}
	for _, c := range []struct {
		a, b api.Span
		want int
	}{
		{span(0, 1), span(1, 2), 1},
		{span(1, 2), span(0, 1), -1},
		{span(0, 0), span(2, 3), 1},
		{span(0, 2), span(0, 2), 0},
		{span(0, 0), span(0, 1), 0},
	} {
		if got := must(century.Change(s, c.a, c.b)); got != c.want {
			t.Error(c, got)
		}
	}
}

// TestExtremes is P8.3.
func TestExtremes(t *testing.T) {
	x := newDice(4)
	seen := 0
	for range 1500 {
		s, times := x.series(small()), x.times(small())
		all := allEvens(s)
		got, e := both(century.Extremes(s, times))
		if len(pick(s, times, all[0])) == 0 {
			if e != api.ErrNone || got != (pair[api.Span]{}) {
				t.Fatal(s, times, got, e)
			}
			continue
		}
		least := endsOf(all, func(l []int) int { return slices.Min(pick(s, times, l)) })
		greatest := endsOf(all, func(l []int) int { return slices.Max(pick(s, times, l)) })
		if e != api.OK || got.low != least || got.high != greatest {
			t.Fatal(s, times, got, e, least, greatest)
		}
		seen++
	}
	enough(t, seen, 500)
}

// TestRanks is P8.4.
func TestRanks(t *testing.T) {
	x := newDice(5)
	sure, open := 0, 0
	for range 1500 {
		s := x.series(small())
		all := allEvens(s)
		for i, v := range s.Values {
			want := endsOf(all, func(l []int) int { return rankOf(l, i) })
			if got, e := century.Rank(s, v.Time); got != want || e != api.OK {
				t.Fatal(s, v.Time, got, e, want)
			}
			if want.Lo == want.Hi {
				sure++
			} else {
				open++
			}
		}
		for _, time := range []int{-1, len(s.Values) * 3, api.MaxWeek + 1} {
			if got, e := century.Rank(s, time); !hasTime(s, time) && (e != api.ErrNone || got != span(0, 0)) {
				t.Fatal(s, time, got, e)
			}
		}
	}
	enough(t, sure, 200)
	enough(t, open, 200)
}

func hasTime(s api.Series, time int) bool {
	return slices.ContainsFunc(s.Values, func(v api.Value) bool { return v.Time == time })
}

// TestRankOfCommonShift checks that a shift that counts for all values does not make ranks unsure.
func TestRankOfCommonShift(t *testing.T) {
	s := values(value(4, 10, 11), value(5, 12, 13), value(6, 12, 12))
	s.Shifts = []api.Shift{shift(4, -100, 100)}
	for i, want := range []api.Span{span(0, 0), span(1, 2), span(1, 1)} {
		if got := must(century.Rank(s, 4+i)); got != want {
			t.Error(i, got)
		}
	}
}

// TestLargest compares the largest series with numbers without bounds.
func TestLargest(t *testing.T) {
	s := largest()
	first := s.Values[0].Time
	levels, shifts := []int{}, []int{}
	for i := range s.Values {
		level := 0
		if i >= len(s.Values)/2 {
			level = 2 * api.MaxLevel
		}
		levels = append(levels, level)
	}
	for range s.Shifts {
		shifts = append(shifts, -api.MaxLevel)
	}
	low, high, e := century.Slope(s)
	if want := slopeOf(s, evenOf(s, levels, shifts)); e != api.OK || rat(high).Cmp(want) != 0 || rat(low).Cmp(want.Neg(want)) != 0 {
		t.Error(low, high, e)
	}
	if low, high, e := century.Mean(s, span(0, api.MaxWeek)); e != api.OK || low.Num >= 0 || high.Num <= 0 {
		t.Error(low, high, e)
	}
	all := api.MaxShifts * api.MaxLevel
	if l := must(century.Evens(s)); l[len(l)-1] != span(-all, all+2*api.MaxLevel) {
		t.Error(l)
	}
	if r := must(century.Rank(s, first)); r != span(0, api.MaxYears-1) {
		t.Error(r)
	}
	if n, l, e := century.Steps(s, 0); n != 0 || len(l) != 0 || e != api.OK {
		t.Error(n, l, e)
	}
	if l := must(century.Monotone(s)); len(l) != api.MaxYears {
		t.Error(l)
	}
	if k := must(century.Adjust(s, s, api.MaxWeek, 2*api.MaxLevel)); k.Lo != -k.Hi || k.Hi <= all {
		t.Error(k)
	}
}
