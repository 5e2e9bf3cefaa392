package century_test

import (
	"fmt"
	"slices"
	"testing"

	"aneroid/api"
	"aneroid/century"
)

// A question is what functions ask beside series.
type question struct {
	a, b        api.Span
	time, most  int
	least, rank int
}

func (d dice) question(k kind) question {
	q := question{a: d.times(k), b: d.times(k), time: d.from(0, k.values*k.gap), most: d.from(0, k.levels), least: d.from(1, 4)}
	q.rank = d.from(0, k.values*k.gap/2)
	return q
}

// An answer is what a function tells, with its error.
type answer[T any] struct {
	told T
	e    api.Errno
}

func answerOf[T any](told T, e api.Errno) answer[T] { return answer[T]{told, e} }

// answers are what functions tell of a series, and of its differences from another one.
type answers struct {
	Evens          answer[[]api.Span]
	Mean           answer[pair[api.Ratio]]
	Extremes       answer[pair[api.Span]]
	Rank           answer[api.Span]
	Slope          answer[pair[api.Ratio]]
	Trend, Change  answer[int]
	Break          answer[[]int]
	Adjust         answer[api.Span]
	Steps          []int
	Monotone, Fall answer[[]int]
}

func ask(s, o api.Series, q question) answers {
	n, times, e := century.Steps(s, q.most)
	if e != api.OK || n != len(times) {
		panic(e)
	}
	return answers{
		answerOf(century.Evens(s)), answerOf(both(century.Mean(s, q.a))), answerOf(both(century.Extremes(s, q.a))),
		answerOf(century.Rank(s, q.rank)), answerOf(both(century.Slope(s))), answerOf(century.Trend(s)),
		answerOf(century.Change(s, q.a, q.b)), answerOf(century.Break(s, o, q.least)), answerOf(century.Adjust(s, o, q.time, q.most)),
		times, answerOf(century.Monotone(s)), answerOf(century.Falls(s)),
	}
}

// TestReal checks P8.2 to P8.4 and P8.6 to P8.8 for levels and shifts that agree with longer series.
func TestReal(t *testing.T) {
	x := newDice(11)
	k := kind{values: 60, shifts: 12, levels: 40, gap: 5, wide: 30}
	trends, changes, breaks := 0, 0, 0
	for range 2000 {
		s, o := x.series(k), x.series(k)
		for i := range s.Values {
			rise := 3 * i
			s.Values[i].Levels = span(s.Values[i].Levels.Lo+rise, s.Values[i].Levels.Hi+rise)
		}
		q := x.question(k)
		a := ask(s, o, q)
		even, other := x.even(s), x.even(o)
		for i, n := range even {
			if !contains(a.Evens.told[i], n) {
				t.Fatal(s, even)
			}
			if r := must(century.Rank(s, s.Values[i].Time)); !contains(r, rankOf(even, i)) {
				t.Fatal(s, even, r)
			}
		}
		checkReal(t, s, even, q, a)
		checkRealPair(t, s, o, even, other, q, a)
		trends += a.Trend.told * a.Trend.told
		changes += a.Change.told * a.Change.told
		breaks += len(a.Break.told)
	}
	enough(t, trends, 200)
	enough(t, changes, 200)
	enough(t, breaks, 200)
}

// even returns adjusted levels of some levels and shifts that agree.
func (d dice) even(s api.Series) []int {
	levels, shifts := d.agreeing(s)
	return evenOf(s, levels, shifts)
}

func checkReal(t *testing.T, s api.Series, even []int, q question, a answers) {
	t.Helper()
	first, second := pick(s, q.a, even), pick(s, q.b, even)
	if a.Mean.e == api.OK && (!isWithin(meanOf(first), a.Mean.told) || !contains(a.Extremes.told.low, slices.Min(first)) || !contains(a.Extremes.told.high, slices.Max(first))) {
		t.Fatal(s, even, q, a)
	}
	if a.Slope.e == api.OK && (!isWithin(slopeOf(s, even), a.Slope.told) || a.Trend.told != 0 && a.Trend.told != slopeOf(s, even).Sign()) {
		t.Fatal(s, even, a)
	}
	if a.Change.told != 0 && meanOf(second).Cmp(meanOf(first)) != a.Change.told {
		t.Fatal(s, even, q, a)
	}
	if a.Fall.e == api.OK && slices.IsSorted(even) || (a.Monotone.e == api.OK) == (a.Fall.e == api.OK) {
		t.Fatal(s, even, a)
	}
}

func checkRealPair(t *testing.T, s, o api.Series, even, other []int, q question, a answers) {
	t.Helper()
	var times, d []int
	for i, v := range s.Values {
		for k, w := range o.Values {
			if v.Time == w.Time {
				times, d = append(times, v.Time), append(d, even[i]-other[k])
			}
		}
	}
	for i := 1; i < len(d); i++ {
		if change := d[i] - d[i-1]; slices.Contains(a.Break.told, times[i]) && max(change, -change) < q.least {
			t.Fatal(s, o, d, a)
		}
	}
	split := len(pickTimes(times, q.time))
	if split == 0 || split == len(d) {
		return
	}
	for k := -300; k <= 300; k += 50 {
		// With the most that these differences need, the number is possible for them.
		low, high := min(slices.Min(d[:split]), slices.Min(d[split:])-k), max(slices.Max(d[:split]), slices.Max(d[split:])-k)
		if jump, e := century.Adjust(s, o, q.time, high-low); e != api.OK || !contains(jump, k) {
			t.Fatal(s, o, d, k, jump, e)
		}
	}
}

// TestNarrower is P8.9.
func TestNarrower(t *testing.T) {
	x := newDice(12)
	changed := 0
	for range 3000 {
		s, o := x.neighbours()
		if x.IntN(2) == 0 {
			s, o = x.series(medium()), x.series(medium())
		}
		narrower, other := cloned(s), cloned(o)
		x.narrow(&narrower)
		if x.IntN(3) == 0 {
			x.narrow(&other)
		}
		q := x.question(medium())
		before, after := ask(s, o, q), ask(narrower, other, q)
		expectNarrower(t, before, after)
		if fmt.Sprint(before) != fmt.Sprint(after) {
			changed++
		}
	}
	enough(t, changed, 1000)
}

// narrow narrows one of the spans of a series.
func (d dice) narrow(s *api.Series) {
	var all []*api.Span
	for i := range s.Values {
		all = append(all, &s.Values[i].Levels)
	}
	for i := range s.Shifts {
		all = append(all, &s.Shifts[i].Levels)
	}
	if len(all) > 0 {
		one := all[d.IntN(len(all))]
		one.Lo = d.from(one.Lo, one.Hi)
		one.Hi = d.from(one.Lo, one.Hi)
	}
}

func isInside(inner, outer api.Span) bool { return outer.Lo <= inner.Lo && inner.Hi <= outer.Hi }

func expectNarrower(t *testing.T, a, b answers) {
	t.Helper()
	for i, s := range b.Evens.told {
		if !isInside(s, a.Evens.told[i]) {
			t.Fatal(a, b)
		}
	}
	ratios := func(outer, inner answer[pair[api.Ratio]]) bool {
		return outer.e == inner.e && (outer.e != api.OK || isWithin(rat(inner.told.low), outer.told) && isWithin(rat(inner.told.high), outer.told))
	}
	sure := func(before, after int) bool { return before == 0 || before == after }
	for what, ok := range map[string]bool{
		"Mean":     ratios(a.Mean, b.Mean),
		"Slope":    ratios(a.Slope, b.Slope),
		"Extremes": isInside(b.Extremes.told.low, a.Extremes.told.low) && isInside(b.Extremes.told.high, a.Extremes.told.high),
		"Rank":     isInside(b.Rank.told, a.Rank.told),
		"Trend":    sure(a.Trend.told, b.Trend.told),
		"Change":   sure(a.Change.told, b.Change.told),
		"Break":    isPart(a.Break.told, b.Break.told),
		"Adjust":   b.Adjust.e == api.ErrNone || a.Adjust.e == api.OK && isInside(b.Adjust.told, a.Adjust.told),
		"Steps":    len(b.Steps) >= len(a.Steps),
		"Monotone": b.Monotone.e == api.ErrNone || a.Monotone.e == api.OK && isAtLeast(b.Monotone.told, a.Monotone.told),
		"Falls":    a.Fall.e == api.ErrNone || b.Fall.e == api.OK && slices.Compare(b.Fall.told, a.Fall.told) <= 0,
	} {
		if !ok {
			t.Fatal(what, a, b)
		}
	}
}

// isAtLeast reports whether no number is less than the one of the other list.
func isAtLeast(l, least []int) bool {
	for i, n := range l {
		if n < least[i] {
			return false
		}
	}
	return true
}

func isPart(l, whole []int) bool {
	return !slices.ContainsFunc(l, func(n int) bool { return !slices.Contains(whole, n) })
}

// expectEqual expects that the same is told of two pairs of series.
func expectEqual(t *testing.T, s, o, s2, o2 api.Series, q question) {
	t.Helper()
	if a, b := ask(s, o, q), ask(s2, o2, q); fmt.Sprint(a) != fmt.Sprint(b) {
		t.Fatal(s, o, s2, o2, q, a, b)
	}
}

// TestOrderOfShifts is P8.10.
func TestOrderOfShifts(t *testing.T) {
	x := newDice(13)
	for range 2000 {
		s, o := x.series(medium()), x.series(medium())
		q := x.question(medium())
		for range x.from(0, 3) {
			s.Shifts = x.doubled(s.Shifts)
			o.Shifts = x.doubled(o.Shifts)
		}
		mixed := cloned(s)
		x.Shuffle(len(mixed.Shifts), func(i, k int) {
			mixed.Shifts[i], mixed.Shifts[k] = mixed.Shifts[k], mixed.Shifts[i]
		})
		slices.SortStableFunc(mixed.Shifts, func(a, b api.Shift) int { return a.Time - b.Time })
		expectEqual(t, s, o, mixed, o, q)
		expectEqual(t, s, o, merged(s), merged(o), q)
		idle := cloned(mixed)
		time := x.from(0, 50)
		idle.Shifts = append(idle.Shifts, shift(time, 0, 0))
		slices.SortStableFunc(idle.Shifts, func(a, b api.Shift) int { return a.Time - b.Time })
		expectEqual(t, s, o, idle, o, q)
		expectEqual(t, o, s, o, idle, q)
	}
}

// doubled returns shifts with a further one at the time of one of them.
func (d dice) doubled(l []api.Shift) []api.Shift {
	if len(l) == 0 {
		return l
	}
	at := d.IntN(len(l))
	return slices.Insert(slices.Clone(l), at, api.Shift{Time: l[at].Time, Levels: d.span(-3, 3, 3)})
}

// merged returns a series with all shifts of one time as one.
func merged(s api.Series) api.Series {
	one := api.Series{Values: s.Values}
	for _, x := range s.Shifts {
		if last := len(one.Shifts) - 1; last >= 0 && one.Shifts[last].Time == x.Time {
			one.Shifts[last].Levels.Lo += x.Levels.Lo
			one.Shifts[last].Levels.Hi += x.Levels.Hi
		} else {
			one.Shifts = append(one.Shifts, x)
		}
	}
	return one
}

// TestNarrowTwice is the rest of P8.10, and Y17.
func TestNarrowTwice(t *testing.T) {
	x := newDice(14)
	done, none := 0, 0
	for range 3000 {
		s := x.series(medium())
		time := x.from(-1, 20)
		if len(s.Values) > 0 && x.IntN(3) > 0 {
			time = s.Values[x.IntN(len(s.Values))].Time
		}
		a, b := x.span(-2, 14, 12), x.span(-2, 14, 12)
		once, e := century.Narrow(s, time, a)
		want, ok := narrowed(s, time, a)
		if (e == api.OK) != ok || !ok && e != api.ErrNone || !equal(once, want) {
			t.Fatal(s, time, a, once, e)
		}
		if !ok {
			none++
			continue
		}
		twice, e := century.Narrow(once, time, b)
		whole, e2 := century.Narrow(s, time, span(max(a.Lo, b.Lo), min(a.Hi, b.Hi)))
		if e != e2 || !equal(twice, whole) {
			t.Fatal(s, time, a, b, twice, e, whole, e2)
		}
		done++
	}
	enough(t, done, 500)
	enough(t, none, 500)
}

// narrowed is Narrow as the chapter words it.
func narrowed(s api.Series, time int, levels api.Span) (api.Series, bool) {
	s = cloned(s)
	for i, v := range s.Values {
		left := span(max(v.Levels.Lo, levels.Lo), min(v.Levels.Hi, levels.Hi))
		if v.Time == time && left.Lo <= left.Hi {
			s.Values[i].Levels = left
			return s, true
		}
	}
	return api.Series{}, false
}

// TestCut is P8.11, and Y19.
func TestCut(t *testing.T) {
	x := newDice(15)
	for range 2000 {
		s := x.series(medium())
		if l := must(century.Cut(s, span(0, api.MaxWeek))); !equal(l, s) {
			t.Fatal(s, l)
		}
		times := x.times(medium())
		want := api.Series{}
		for _, v := range s.Values {
			if contains(times, v.Time) {
				want.Values = append(want.Values, v)
			}
		}
		for _, v := range s.Shifts {
			if contains(times, v.Time) {
				want.Shifts = append(want.Shifts, v)
			}
		}
		if l := must(century.Cut(s, times)); !equal(l, want) {
			t.Fatal(s, times, l)
		}
	}
}

// TestOutside is the rest of P8.11: what is told of a span is the same whatever the values outside of it and the shifts behind it are.
func TestOutside(t *testing.T) {
	x := newDice(16)
	seen := 0
	for range 3000 {
		s, times := x.series(medium()), x.times(medium())
		other := swapped(s, x.series(medium()), times)
		if a, b := parts(s, times), parts(other, times); a != b {
			t.Fatal(s, other, times, a, b)
		}
		if !equal(s, other) {
			seen++
		}
	}
	enough(t, seen, 1000)
}

// swapped returns a series with the values outside of a span and the shifts behind it of another one.
func swapped(s, other api.Series, times api.Span) api.Series {
	var l api.Series
	for _, v := range s.Values {
		if contains(times, v.Time) {
			l.Values = append(l.Values, v)
		}
	}
	for _, v := range other.Values {
		if !contains(times, v.Time) {
			l.Values = append(l.Values, v)
		}
	}
	slices.SortFunc(l.Values, func(a, b api.Value) int { return a.Time - b.Time })
	for _, x := range s.Shifts {
		if x.Time <= times.Hi {
			l.Shifts = append(l.Shifts, x)
		}
	}
	for _, x := range other.Shifts {
		if x.Time > times.Hi {
			l.Shifts = append(l.Shifts, x)
		}
	}
	return l
}

// parts is what is told of the values of a span, as a text.
func parts(s api.Series, times api.Span) string {
	var evens []api.Span
	for i, v := range s.Values {
		if contains(times, v.Time) {
			evens = append(evens, must(century.Evens(s))[i])
		}
	}
	half := span(times.Lo, (times.Lo+times.Hi)/2)
	return fmt.Sprint(evens, answerOf(both(century.Mean(s, times))), answerOf(both(century.Extremes(s, times))), answerOf(century.Change(s, half, times)))
}

// TestJoin is the rest of P8.11, and Y18.
func TestJoin(t *testing.T) {
	x := newDice(17)
	whole, none := 0, 0
	for range 3000 {
		s, o := x.series(medium()), x.series(medium())
		if l := must(century.Join(s, s)); !equal(l, s) {
			t.Fatal(s, l)
		}
		if !slices.Equal(s.Shifts, o.Shifts) {
			if l, e := century.Join(s, o); e != api.ErrShift || !equal(l, api.Series{}) {
				t.Fatal(s, o, l, e)
			}
		}
		o.Shifts = s.Shifts
		l, e := century.Join(s, o)
		back, e2 := century.Join(o, s)
		want, ok := joined(s, o)
		if (e == api.OK) != ok || !ok && e != api.ErrNone || e != e2 || !equal(l, want) || !equal(back, want) {
			t.Fatal(s, o, l, e, back, e2, want)
		}
		if ok {
			whole++
		} else {
			none++
		}
	}
	enough(t, whole, 200)
	enough(t, none, 200)
}

// joined is Join as the chapter words it, of series with equal shifts.
func joined(s, o api.Series) (api.Series, bool) {
	l := api.Series{Shifts: s.Shifts}
	for time := range api.MaxWeek/100 + 1 {
		v := value(time, 0, 2*api.MaxLevel)
		found := false
		for _, x := range slices.Concat(s.Values, o.Values) {
			if x.Time == time {
				v.Levels, found = span(max(v.Levels.Lo, x.Levels.Lo), min(v.Levels.Hi, x.Levels.Hi)), true
			}
		}
		if v.Levels.Lo > v.Levels.Hi {
			return api.Series{}, false
		}
		if found {
			l.Values = append(l.Values, v)
		}
	}
	return l, true
}

// mirrored counts levels from 2 * MaxLevel downwards.
func mirrored(s api.Series) api.Series {
	s = cloned(s)
	for i, v := range s.Values {
		s.Values[i].Levels = turned(v.Levels)
	}
	for i, v := range s.Shifts {
		s.Shifts[i].Levels = span(-v.Levels.Hi, -v.Levels.Lo)
	}
	return s
}

func turned(s api.Span) api.Span { return span(2*api.MaxLevel-s.Hi, 2*api.MaxLevel-s.Lo) }

func turnedRatio(r api.Ratio) api.Ratio {
	return api.Ratio{Num: 2*api.MaxLevel*r.Den - r.Num, Den: r.Den}
}

// TestMirrors is P8.12.
func TestMirrors(t *testing.T) {
	x := newDice(18)
	for range 3000 {
		s, o := x.series(medium()), x.series(medium())
		q := x.question(medium())
		a, b := ask(s, o, q), ask(mirrored(s), mirrored(o), q)
		for i, s := range a.Evens.told {
			if b.Evens.told[i] != turned(s) {
				t.Fatal(a, b)
			}
		}
		if a.Mean.e == api.OK {
			a.Mean.told = pair[api.Ratio]{turnedRatio(a.Mean.told.high), turnedRatio(a.Mean.told.low)}
			a.Extremes.told = pair[api.Span]{turned(a.Extremes.told.high), turned(a.Extremes.told.low)}
		}
		slope := a.Slope.told
		a.Slope.told.low.Num, a.Slope.told.low.Den = -slope.high.Num, slope.high.Den
		a.Slope.told.high.Num, a.Slope.told.high.Den = -slope.low.Num, slope.low.Den
		a.Trend.told, a.Change.told = -a.Trend.told, -a.Change.told
		a.Adjust.told = span(-a.Adjust.told.Hi, -a.Adjust.told.Lo)
		// What rises now has fallen there: so the rest is not the same.
		a.Evens, a.Rank, a.Monotone, a.Fall = b.Evens, b.Rank, b.Monotone, b.Fall
		if fmt.Sprint(a) != fmt.Sprint(b) {
			t.Fatal(s, o, q, a, b)
		}
	}
}
