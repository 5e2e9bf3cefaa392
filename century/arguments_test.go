package century_test

import (
	"fmt"
	"math"
	"reflect"
	"slices"
	"testing"

	"aneroid/api"
	"aneroid/century"
)

// A call is a function of the chapter with a series.
type call struct {
	name string
	do   func(s api.Series) (zero bool, e api.Errno)
}

// of is a call with a name.
func of[T any](name string, do func(s api.Series) (T, api.Errno)) call {
	return call{name, func(s api.Series) (bool, api.Errno) {
		value, e := do(s)
		var zero T
		return fmt.Sprint(value) == fmt.Sprint(zero), e
	}}
}

// spanned are calls with a span of times.
func spanned(times api.Span) []call {
	return []call{
		of("Mean", func(s api.Series) (pair[api.Ratio], api.Errno) { return both(century.Mean(s, times)) }),
		of("Extremes", func(s api.Series) (pair[api.Span], api.Errno) { return both(century.Extremes(s, times)) }),
		of("Change", func(s api.Series) (int, api.Errno) { return century.Change(s, times, span(0, 0)) }),
		of("Change", func(s api.Series) (int, api.Errno) { return century.Change(s, span(0, 0), times) }),
		of("Cut", func(s api.Series) (api.Series, api.Errno) { return century.Cut(s, times) }),
	}
}

// two are calls with another series.
func two(o api.Series, time, most, least int) []call {
	return []call{
		of("Break", func(s api.Series) ([]int, api.Errno) { return century.Break(s, o, least) }),
		of("Break", func(s api.Series) ([]int, api.Errno) { return century.Break(o, s, least) }),
		of("Adjust", func(s api.Series) (api.Span, api.Errno) { return century.Adjust(s, o, time, most) }),
		of("Adjust", func(s api.Series) (api.Span, api.Errno) { return century.Adjust(o, s, time, most) }),
		of("Join", func(s api.Series) (api.Series, api.Errno) { return century.Join(s, o) }),
		of("Join", func(s api.Series) (api.Series, api.Errno) { return century.Join(o, s) }),
	}
}

// ranked are calls with a time, or a number that levels differ by at most.
func ranked(time, most int) []call {
	return []call{
		of("Rank", func(s api.Series) (api.Span, api.Errno) { return century.Rank(s, time) }),
		of("Narrow", func(s api.Series) (api.Series, api.Errno) { return century.Narrow(s, time, span(0, 0)) }),
		of("Steps", func(s api.Series) (pair[string], api.Errno) {
			n, l, e := century.Steps(s, most)
			if n == 0 && len(l) == 0 {
				return pair[string]{}, e
			}
			return pair[string]{"some", "some"}, e
		}),
	}
}

// plain are calls without further arguments; levels and shifts do not agree.
func plain() []call {
	return []call{
		{"Keeps", func(s api.Series) (bool, api.Errno) { return true, century.Keeps(s, nil, []int{9}) }},
		of("Even", func(s api.Series) ([]int, api.Errno) { return century.Even(s, nil, []int{9}) }),
		of("Evens", century.Evens), of("Trend", century.Trend), of("Monotone", century.Monotone), of("Falls", century.Falls),
		of("Slope", func(s api.Series) (pair[api.Ratio], api.Errno) { return both(century.Slope(s)) }),
		of("SlopeAt", func(s api.Series) (pair[[]int], api.Errno) { return both(century.SlopeAt(s, true)) }),
		of("SlopeAt", func(s api.Series) (pair[[]int], api.Errno) { return both(century.SlopeAt(s, false)) }),
	}
}

func expectCalls(t *testing.T, what string, s api.Series, want api.Errno, calls []call) {
	t.Helper()
	for _, c := range calls {
		if zero, e := c.do(s); !zero || e != want {
			t.Error(what, c.name, zero, e, "not", want)
		}
	}
}

// invalid are series that are not valid, by the error of Check.
func invalid() map[api.Errno][]api.Series {
	all := map[api.Errno][]api.Series{api.ErrLimit: {{Values: make([]api.Value, 201)}, {Shifts: make([]api.Shift, 65)}}}
	for _, v := range badValues() {
		all[api.ErrSeries] = append(all[api.ErrSeries], values(v))
	}
	for _, x := range badShifts() {
		s := example()
		s.Shifts[0] = x
		all[api.ErrShift] = append(all[api.ErrShift], s)
	}
	return all
}

func badNumbers() []int { return []int{-1, 24001, math.MinInt, math.MaxInt} }

func badTimes() []api.Span {
	return []api.Span{span(-1, 3), span(3, 2), span(0, 10001), span(10001, 10001), span(math.MinInt, math.MaxInt), span(math.MaxInt, math.MinInt)}
}

// TestInvalidSeries checks that the error of Check comes first, of whichever series, whatever the other arguments are.
func TestInvalidSeries(t *testing.T) {
	for e, l := range invalid() {
		for i, s := range l {
			what := fmt.Sprint("series ", i)
			expectCalls(t, what, s, e, plain())
			for _, n := range append(badNumbers(), 3) {
				expectCalls(t, what, s, e, slices.Concat(ranked(n, n), two(neighbour(), n, n, n)))
			}
			for _, times := range append(badTimes(), span(0, 3)) {
				expectCalls(t, what, s, e, spanned(times))
			}
		}
	}
	for e, l := range invalid() {
		for other, l2 := range invalid() {
			for i, c := range two(l2[0], 3, 3, 3) {
				// Of two series that are not valid, the first one's error is returned.
				want := []api.Errno{e, other}[i%2]
				expectCalls(t, "two", l[0], want, []call{c})
			}
		}
	}
}

// TestArguments checks that ErrArg comes ahead of ErrNone.
func TestArguments(t *testing.T) {
	empty := api.Series{Shifts: example().Shifts}
	for _, s := range []api.Series{example(), empty} {
		for _, times := range badTimes() {
			expectCalls(t, fmt.Sprint(times), s, api.ErrArg, spanned(times))
		}
		for _, n := range badNumbers() {
			expectCalls(t, fmt.Sprint("most ", n), s, api.ErrArg, slices.Concat(ranked(0, n)[2:], two(neighbour(), 3, n, n)[:4]))
		}
		for _, n := range []int{-1, 10001, math.MinInt, math.MaxInt} {
			expectCalls(t, fmt.Sprint("time ", n), s, api.ErrArg, two(neighbour(), n, 0, 0)[:4])
			expectCalls(t, fmt.Sprint("time ", n), s, api.ErrNone, ranked(n, 0)[:2])
		}
		expectCalls(t, "least", s, api.ErrArg, two(neighbour(), 0, 0, 0)[:2])
		expectCalls(t, "levels", s, api.ErrArg, plain()[:2])
	}
	expectCalls(t, "empty", empty, api.ErrNone, slices.Concat(spanned(span(0, 10000))[:4], ranked(0, 0)[:2], two(neighbour(), 3, 24000, 24000)[2:4]))
	expectCalls(t, "empty", empty, api.OK, two(neighbour(), 0, 0, 24000)[:2])
	for _, times := range []api.Span{span(2, 2), span(4, 10000)} {
		expectCalls(t, "no value", example(), api.ErrNone, spanned(times)[:4])
	}
	for _, levels := range []api.Span{span(96, 200), span(0, 89), span(95, 90), span(math.MaxInt, math.MinInt)} {
		expectCalls(t, "nothing left", example(), api.ErrNone, []call{
			of("Narrow", func(s api.Series) (api.Series, api.Errno) { return century.Narrow(s, 3, levels) }),
		})
	}
}

// TestJoinErrors checks that Join returns ErrShift first, then ErrNone, then ErrLimit.
func TestJoinErrors(t *testing.T) {
	var odd, even api.Series
	for i := range 101 {
		odd.Values = append(odd.Values, value(2*i+1, 0, 0))
		even.Values = append(even.Values, value(2*i, 0, 0))
	}
	one := values(value(1, 1, 1))
	for i, c := range []struct {
		s, o api.Series
		e    api.Errno
	}{
		{odd, even, api.ErrLimit},
		{odd, api.Series{Values: append(slices.Clone(even.Values), value(201, 1, 1))}, api.ErrNone},
		{api.Series{Values: odd.Values, Shifts: []api.Shift{shift(0, 0, 0)}}, even, api.ErrShift},
		{odd, one, api.ErrNone},
		{odd, api.Series{Values: one.Values, Shifts: []api.Shift{shift(9, 0, 1)}}, api.ErrShift},
		{odd, api.Series{Values: even.Values[:99]}, api.OK},
	} {
		for _, series := range [][2]api.Series{{c.s, c.o}, {c.o, c.s}} {
			l, e := century.Join(series[0], series[1])
			if e != c.e || e != api.OK && !equal(l, api.Series{}) || e == api.OK && len(l.Values) != api.MaxYears {
				t.Error(i, e, len(l.Values))
			}
		}
	}
}

// slicesOf returns where the elements of all slices of a value lie in memory.
func slicesOf(v reflect.Value, found map[string]int) {
	switch v.Kind() {
	case reflect.Struct:
		for i := range v.NumField() {
			slicesOf(v.Field(i), found)
		}
	case reflect.Slice:
		for i := range v.Len() {
			found[fmt.Sprint(v.Index(i).Addr().Pointer())]++
		}
	}
}

// expectNew checks that a result shares no memory with series, nor its slices with one another.
func expectNew(t *testing.T, result any, arguments ...api.Series) {
	t.Helper()
	mine := map[string]int{}
	slicesOf(reflect.ValueOf(result), mine)
	others := map[string]int{}
	for _, s := range arguments {
		slicesOf(reflect.ValueOf(s), others)
	}
	for at, times := range mine {
		if times > 1 || others[at] > 0 {
			t.Errorf("%T: the memory at %s is shared", result, at)
		}
	}
}

// TestMemory checks that results are new memory, and that arguments stay as they are, although the capacity of their lists has room.
func TestMemory(t *testing.T) {
	x := newDice(19)
	for range 300 {
		s, o := x.series(medium()), x.series(medium())
		s.Shifts = append(make([]api.Shift, 0, 99), s.Shifts...)
		o.Shifts = append(make([]api.Shift, 0, 99), s.Shifts...)
		s.Values = append(make([]api.Value, 0, 99), s.Values...)
		room := fmt.Sprint(s.Values[:99], s.Shifts[:99])
		before := fmt.Sprint(s, o)
		expectNew(t, must(century.Cut(s, span(0, api.MaxWeek))), s)
		l, _ := century.Join(s, o)
		expectNew(t, l, s, o)
		expectNew(t, must(century.Join(s, s)), s)
		for _, v := range s.Values {
			expectNew(t, must(century.Narrow(s, v.Time, v.Levels)), s)
		}
		ask(s, o, x.question(medium()))
		levels, shifts := x.agreeing(s)
		numbers := fmt.Sprint(levels, shifts)
		even := must(century.Even(s, levels, shifts))
		for i := range even {
			even[i]--
		}
		if fmt.Sprint(s, o) != before || fmt.Sprint(s.Values[:99], s.Shifts[:99]) != room || fmt.Sprint(levels, shifts) != numbers {
			t.Fatal("an argument is changed")
		}
	}
}
