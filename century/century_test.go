package century_test

import (
	"math"
	"slices"
	"testing"

	"aneroid/api"
	"aneroid/century"
)

// TestExamples is the table of the chapter's examples.
func TestExamples(t *testing.T) {
	s, n := example(), neighbour()
	for what, pair := range map[string][2]any{
		"Even":          {must(century.Even(s, []int{100, 101, 90}, []int{-5})), []int{100, 101, 95}},
		"Evens":         {must(century.Evens(s)), []api.Span{span(100, 102), span(101, 101), span(90, 100)}},
		"Mean":          {must(both(century.Mean(s, span(0, 1)))), pair[api.Ratio]{api.Ratio{Num: 201, Den: 2}, api.Ratio{Num: 203, Den: 2}}},
		"Extremes":      {must(both(century.Extremes(s, span(0, 3)))), pair[api.Span]{span(90, 100), span(101, 102)}},
		"Rank of 0":     {must(century.Rank(s, 0)), span(0, 2)},
		"Rank of 3":     {must(century.Rank(s, 3)), span(0, 0)},
		"Slope":         {must(both(century.Slope(s))), pair[api.Ratio]{api.Ratio{Num: -59, Den: 14}, api.Ratio{Num: -1, Den: 14}}},
		"Trend":         {must(century.Trend(s)), -1},
		"Change":        {must(century.Change(s, span(0, 1), span(3, 3))), -1},
		"Change back":   {must(century.Change(s, span(3, 3), span(0, 1))), 1},
		"Break by 1":    {must(century.Break(s, n, 1)), []int{3}},
		"Break by 2":    {must(century.Break(s, n, 2)), []int(nil)},
		"Adjust":        {must(century.Adjust(s, n, 3, 0)), span(-11, -1)},
		"Adjust back":   {must(century.Adjust(n, s, 3, 0)), span(1, 11)},
		"Falls":         {must(century.Falls(s)), []int{1, 3}},
		"Narrow":        {must(century.Narrow(s, 0, span(101, 200))).Values[0], value(0, 101, 102)},
		"Cut, values":   {must(century.Cut(s, span(1, 3))).Values, s.Values[1:]},
		"Cut, shifts":   {must(century.Cut(s, span(1, 3))).Shifts, s.Shifts},
		"Cut, ahead":    {must(century.Cut(s, span(0, 1))).Shifts, []api.Shift(nil)},
		"Join, a value": {must(century.Join(values(value(1, 5, 9)), values(value(1, 7, 12)))), values(value(1, 7, 9))},
	} {
		expectSame(t, what, pair[0], pair[1])
	}
	if _, e := century.Monotone(s); e != api.ErrNone {
		t.Error(e)
	}
	s.Shifts[0].Levels.Lo = -6
	if l, e := century.Monotone(s); e != api.OK || !slices.Equal(l, []int{100, 101, 101}) {
		t.Error(l, e)
	}
	if l, e := century.Falls(s); e != api.ErrNone || l != nil {
		t.Error(l, e)
	}
}

// TestStepsOfExample is the rest of the table.
func TestStepsOfExample(t *testing.T) {
	for most, want := range map[int][]int{5: nil, 1: nil, 0: {3}} {
		if n, l, e := century.Steps(example(), most); n != len(want) || !slices.Equal(l, want) || e != api.OK {
			t.Error(most, n, l, e)
		}
	}
}

// TestCheck is Y1.
func TestCheck(t *testing.T) {
	type result struct {
		e  api.Errno
		at int
	}
	check := func(s api.Series) result {
		e, at := century.Check(s)
		return result{e, at}
	}
	many := largest()
	for what, pair := range map[string][2]result{
		"nothing":      {check(api.Series{})},
		"example":      {check(example())},
		"largest":      {check(many)},
		"too many":     {check(api.Series{Values: make([]api.Value, api.MaxYears+1), Shifts: []api.Shift{shift(-1, 0, 0)}}), {api.ErrLimit, 0}},
		"too many too": {check(api.Series{Values: []api.Value{value(-1, 0, 0)}, Shifts: make([]api.Shift, api.MaxShifts+1)}), {api.ErrLimit, 0}},
		"equal times":  {check(api.Series{Values: make([]api.Value, api.MaxYears)}), {api.ErrSeries, 1}},
		"equal shifts": {check(api.Series{Shifts: make([]api.Shift, api.MaxShifts)})},
		"both":         {check(api.Series{Values: []api.Value{value(0, 1, 1), value(1, 2, 1)}, Shifts: []api.Shift{shift(-1, 0, 0)}}), {api.ErrSeries, 1}},
	} {
		if pair[0] != pair[1] {
			t.Error(what, pair)
		}
	}
	for i, v := range badValues() {
		for at := range 3 {
			s := values(value(1, 0, 0), value(2, 0, 0), value(3, 0, 0))
			s.Values[at] = v
			s.Values = append(s.Values, value(-1, 0, 0))
			if got := check(s); got != (result{api.ErrSeries, at}) {
				t.Error(i, at, got)
			}
		}
	}
	for i, x := range badShifts() {
		for at := range 3 {
			s := example()
			s.Shifts = []api.Shift{shift(5, 0, 0), shift(5, 0, 0), shift(5, 0, 0)}
			s.Shifts[at] = x
			s.Shifts = append(s.Shifts, shift(-1, 0, 0))
			if got := check(s); got != (result{api.ErrShift, at}) {
				t.Error(i, at, got)
			}
		}
	}
}

// TestCheckOrder is the rest of Y1: times must increase, or must not decrease.
func TestCheckOrder(t *testing.T) {
	for _, second := range []int{0, 1, 3, 4, 5} {
		e, at := century.Check(values(value(4, 0, 0), value(second, 0, 0)))
		if want := second > 4; (e == api.OK) != want || !want && (e != api.ErrSeries || at != 1) {
			t.Error(second, e, at)
		}
		e, at = century.Check(api.Series{Shifts: []api.Shift{shift(4, 0, 0), shift(second, 0, 0)}})
		if want := second >= 4; (e == api.OK) != want || !want && (e != api.ErrShift || at != 1) {
			t.Error(second, e, at)
		}
	}
	edge := values(value(0, 0, 0), value(1, 0, 24000), value(10000, 24000, 24000))
	edge.Shifts = []api.Shift{shift(0, -12000, -12000), shift(0, 12000, 12000), shift(10000, -12000, 12000)}
	if e, at := century.Check(edge); e != api.OK || at != 0 {
		t.Error(e, at)
	}
}

// badValues are wrong whichever values are beside them.
func badValues() []api.Value {
	return []api.Value{
		value(-1, 0, 0), value(api.MaxWeek+1, 0, 0), value(math.MinInt, 0, 0), value(math.MaxInt, 0, 0),
		value(5, -1, 0), value(5, 1, 0), value(5, 0, 24001), value(5, 24001, 24001),
		value(5, math.MinInt, math.MaxInt), value(5, math.MaxInt, math.MinInt),
	}
}

func badShifts() []api.Shift {
	return []api.Shift{
		shift(-1, 0, 0), shift(api.MaxWeek+1, 0, 0), shift(math.MinInt, 0, 0), shift(math.MaxInt, 0, 0),
		shift(5, -12001, 0), shift(5, 1, 0), shift(5, 0, 12001), shift(5, 12001, 12001),
		shift(5, math.MinInt, math.MaxInt), shift(5, math.MaxInt, math.MinInt),
	}
}

// TestAgreeing is Y2 and Y3.
func TestAgreeing(t *testing.T) {
	x := newDice(1)
	for range 500 {
		s := x.series(medium())
		levels, shifts := x.agreeing(s)
		even, e := century.Even(s, levels, shifts)
		if century.Keeps(s, levels, shifts) != api.OK || e != api.OK || !slices.Equal(even, evenOf(s, levels, shifts)) {
			t.Fatal(s, levels, shifts, even, e)
		}
		for i := range levels {
			expectApart(t, s, changed(levels, i, s.Values[i].Levels.Lo-1), shifts)
			expectApart(t, s, changed(levels, i, s.Values[i].Levels.Hi+1), shifts)
			expectApart(t, s, changed(levels, i, math.MinInt), shifts)
		}
		for i := range shifts {
			expectApart(t, s, levels, changed(shifts, i, s.Shifts[i].Levels.Lo-1))
			expectApart(t, s, levels, changed(shifts, i, s.Shifts[i].Levels.Hi+1))
			expectApart(t, s, levels, changed(shifts, i, math.MaxInt))
		}
		expectApart(t, s, append(slices.Clone(levels), 0), shifts)
		expectApart(t, s, levels, append(slices.Clone(shifts), 0))
		if len(levels) > 0 {
			expectApart(t, s, levels[1:], shifts)
		}
		if len(shifts) > 0 {
			expectApart(t, s, levels, shifts[1:])
		}
	}
}

// changed returns a list with another number at an index.
func changed(l []int, at, n int) []int {
	l = slices.Clone(l)
	l[at] = n
	return l
}

// expectApart expects that levels and shifts do not agree with a series.
func expectApart(t *testing.T, s api.Series, levels, shifts []int) {
	t.Helper()
	if e := century.Keeps(s, levels, shifts); e != api.ErrArg {
		t.Error(s, levels, shifts, e)
	}
	if l, e := century.Even(s, levels, shifts); e != api.ErrArg || len(l) != 0 {
		t.Error(s, levels, shifts, l, e)
	}
}

// TestShiftTimes checks that a shift counts from its time on, wherever that is.
func TestShiftTimes(t *testing.T) {
	s := values(value(3, 50, 50), value(5, 50, 50), value(7, 50, 50))
	for time, want := range map[int][]int{0: {43, 43, 43}, 3: {43, 43, 43}, 4: {50, 43, 43}, 5: {50, 43, 43}, 7: {50, 50, 43}, 8: {50, 50, 50}, 10000: {50, 50, 50}} {
		s.Shifts = []api.Shift{shift(time, 7, 7)}
		if l := must(century.Even(s, []int{50, 50, 50}, []int{7})); !slices.Equal(l, want) {
			t.Error(time, l)
		}
	}
}

// TestNoValues checks what is told of series without values, or with one.
func TestNoValues(t *testing.T) {
	none := api.Series{Shifts: []api.Shift{shift(1, 1, 2)}}
	one := values(value(4, 7, 9))
	one.Shifts = none.Shifts
	for _, s := range []api.Series{none, one} {
		if _, _, e := century.Slope(s); e != api.ErrNone {
			t.Error(e)
		}
		if _, _, e := century.SlopeAt(s, true); e != api.ErrNone {
			t.Error(e)
		}
		if _, e := century.Trend(s); e != api.ErrNone {
			t.Error(e)
		}
		if _, e := century.Falls(s); e != api.ErrNone {
			t.Error(e)
		}
		if n, l, e := century.Steps(s, 0); n != 0 || len(l) != 0 || e != api.OK {
			t.Error(n, l, e)
		}
		if l, e := century.Break(s, s, 1); len(l) != 0 || e != api.OK {
			t.Error(l, e)
		}
	}
	if l, e := century.Evens(none); len(l) != 0 || e != api.OK {
		t.Error(l, e)
	}
	if l, e := century.Even(none, nil, []int{1}); len(l) != 0 || e != api.OK {
		t.Error(l, e)
	}
	if l, e := century.Monotone(none); len(l) != 0 || e != api.OK {
		t.Error(l, e)
	}
	if l, e := century.Monotone(one); !slices.Equal(l, []int{5}) || e != api.OK {
		t.Error(l, e)
	}
	if r, e := century.Rank(one, 4); r != span(0, 0) || e != api.OK {
		t.Error(r, e)
	}
}
