package century_test

import (
	"slices"
	"testing"

	"aneroid/api"
	"aneroid/century"
)

// neighbours returns two series that have not too many levels and shifts together, mostly with common times.
func (d dice) neighbours() (s, o api.Series) {
	k := kind{values: 4, shifts: 2, levels: 4, gap: 2, wide: 1}
	s, o = d.series(k), d.series(k)
	o.Values = d.values(kind{values: 1, levels: 4})
	for _, v := range s.Values {
		if d.IntN(6) > 0 && !hasTime(o, v.Time) {
			v.Levels = d.span(0, k.levels, k.wide)
			o.Values = append(o.Values, v)
		}
	}
	slices.SortFunc(o.Values, func(a, b api.Value) int { return a.Time - b.Time })
	return s, o
}

// TestBreaks is P8.7.
func TestBreaks(t *testing.T) {
	x := newDice(9)
	breaks, calm, unequal := 0, 0, 0
	for range 1500 {
		s, o := x.neighbours()
		times, all := differencesOf(s, o)
		equal := slices.ContainsFunc(all, func(d []int) bool { return areEven(d, 0) })
		for _, least := range []int{1, 2, 3, 5} {
			var want []int
			for i := 1; i < len(times); i++ {
				change := endsOf(all, func(d []int) int { return d[i] - d[i-1] })
				if change.Lo >= least || change.Hi <= -least {
					want = append(want, times[i])
				}
			}
			got, e := century.Break(s, o, least)
			if e != api.OK || !slices.Equal(got, want) || equal && len(got) > 0 {
				t.Fatal(s, o, least, got, e, want)
			}
			if len(want) > 0 {
				breaks++
			} else if len(times) > 1 && equal {
				calm++
			} else if len(times) > 1 {
				unequal++
			}
		}
	}
	enough(t, breaks, 200)
	enough(t, calm, 200)
	enough(t, unequal, 50)
}

// TestAdjust is P8.8: what is told is compared with all differences and each number.
func TestAdjust(t *testing.T) {
	x := newDice(10)
	none, some, wide := 0, 0, 0
	for range 700 {
		s, o := x.neighbours()
		times, all := differencesOf(s, o)
		time, most := x.from(0, 6), x.from(0, 4)
		split := len(pickTimes(times, time))
		got, e := century.Adjust(s, o, time, most)
		back, other := century.Adjust(o, s, time, most)
		possible := []int{}
		if split > 0 && split < len(times) {
			possible = jumpsOf(all, split, most)
		}
		if len(possible) == 0 {
			none++
			if e != api.ErrNone || other != api.ErrNone || got != span(0, 0) || back != span(0, 0) {
				t.Fatal(s, o, time, most, got, e, back, other)
			}
			continue
		}
		some++
		if len(times) > 2 && got.Hi > got.Lo {
			wide++
		}
		if e != api.OK || other != api.OK || back != span(-got.Hi, -got.Lo) || !slices.Equal(possible, numbers(got)) {
			t.Fatal(s, o, time, most, got, e, back, other, possible)
		}
	}
	enough(t, none, 50)
	enough(t, some, 100)
	enough(t, wide, 30)
}

// pickTimes returns the times ahead of one.
func pickTimes(times []int, time int) []int {
	return slices.DeleteFunc(slices.Clone(times), func(n int) bool { return n >= time })
}

func numbers(s api.Span) []int {
	var l []int
	for n := s.Lo; n <= s.Hi; n++ {
		l = append(l, n)
	}
	return l
}

// jumpsOf returns the numbers, of all that could be, with which some differences lie within most, if those from split on are less by the number.
func jumpsOf(all [][]int, split, most int) []int {
	var possible []int
	for k := -60; k <= 60; k++ {
		if slices.ContainsFunc(all, func(d []int) bool { return isJump(d, split, k, most) }) {
			possible = append(possible, k)
		}
	}
	return possible
}

func isJump(d []int, split, k, most int) bool {
	low := min(slices.Min(d[:split]), slices.Min(d[split:])-k)
	high := max(slices.Max(d[:split]), slices.Max(d[split:])-k)
	return high-low <= most
}

// TestAdjustNone names the cases without a shift: no common times on a side, or differences of one side that are never so near.
func TestAdjustNone(t *testing.T) {
	s := values(value(1, 5, 5), value(3, 5, 5), value(4, 9, 9))
	o := values(value(1, 5, 5), value(2, 5, 5), value(3, 5, 5), value(4, 5, 5), value(7, 5, 5))
	for _, c := range []struct {
		time, most int
		want       api.Span
		e          api.Errno
	}{
		{0, 4, span(0, 0), api.ErrNone},
		{1, 4, span(0, 0), api.ErrNone},
		{2, 3, span(0, 0), api.ErrNone},
		{2, 4, span(0, 4), api.OK},
		{2, 5, span(-1, 5), api.OK},
		{3, 4, span(0, 4), api.OK},
		{4, 0, span(4, 4), api.OK},
		{4, 1, span(3, 5), api.OK},
		{5, 24000, span(0, 0), api.ErrNone},
		{10000, 0, span(0, 0), api.ErrNone},
	} {
		if got, e := century.Adjust(s, o, c.time, c.most); got != c.want || e != c.e {
			t.Error(c, got, e)
		}
	}
	// The differences ahead of the time can be equal one by one, but not all together.
	s = values(value(0, 0, 4), value(1, 2, 2), value(2, 6, 6), value(3, 0, 0))
	o = values(value(0, 0, 0), value(1, 0, 0), value(2, 0, 0), value(3, 0, 0))
	s.Shifts = []api.Shift{shift(2, 0, 3)}
	if k, e := century.Adjust(s, o, 3, 0); e != api.ErrNone {
		t.Error(k, e)
	}
	if k, e := century.Adjust(s, o, 3, 1); e != api.OK || k != span(-6, -5) {
		t.Error(k, e)
	}
}
