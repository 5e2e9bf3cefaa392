package century_test

import (
	"slices"
	"testing"

	"aneroid/api"
	"aneroid/century"
)

// TestSteps is P8.5: the parts are compared with all ways to divide the values.
func TestSteps(t *testing.T) {
	x := newDice(6)
	parts := map[int]int{}
	k := small()
	k.values, k.shifts = 5, 2
	for range 700 {
		s := x.series(k)
		all := allEvens(s)
		before := len(s.Values)
		for most := range 6 {
			n, times, e := century.Steps(s, most)
			if want := longestParts(s, all, most); e != api.OK || n != len(want) || !slices.Equal(times, want) {
				t.Fatal(s, most, n, times, e, want)
			}
			if fewest := fewestParts(s, all, most); n != max(0, fewest-1) || n > before {
				t.Fatal(s, most, n, fewest, before)
			}
			before = n
			parts[n]++
		}
	}
	enough(t, parts[1], 100)
	enough(t, parts[2], 100)
	enough(t, parts[3], 20)
}

// longestParts returns the times of the first values of all parts but the first one, if each part is as long as it can be.
func longestParts(s api.Series, all [][]int, most int) []int {
	var times []int
	for from := 0; from < len(s.Values); {
		to := from + 1
		for to < len(s.Values) && canBeEven(all, from, to+1, most) {
			to++
		}
		if to < len(s.Values) {
			times = append(times, s.Values[to].Time)
		}
		from = to
	}
	return times
}

// fewestParts returns the least number of parts that can be even, of all ways to divide the values.
func fewestParts(s api.Series, all [][]int, most int) int {
	fewest := make([]int, len(s.Values)+1)
	for to := 1; to < len(fewest); to++ {
		fewest[to] = to
		for from := range to {
			if canBeEven(all, from, to, most) {
				fewest[to] = min(fewest[to], fewest[from]+1)
			}
		}
	}
	return fewest[len(s.Values)]
}

// TestFalls is P8.6.
func TestFalls(t *testing.T) {
	x := newDice(7)
	fallen, whole := 0, 0
	k := small()
	k.values = 5
	for range 1500 {
		s := x.series(k)
		all := allEvens(s)
		wantFalls(t, s, all)
		least := leastRising(all)
		levels, e := century.Monotone(s)
		if least == nil {
			fallen++
			if e != api.ErrNone || len(levels) != 0 {
				t.Fatal(s, levels, e)
			}
			continue
		}
		whole++
		if e != api.OK || !slices.Equal(levels, least) || !slices.ContainsFunc(all, func(l []int) bool { return slices.Equal(l, levels) }) {
			t.Fatal(s, levels, e, least)
		}
	}
	enough(t, fallen, 300)
	enough(t, whole, 300)
}

// leastRising returns the least adjusted levels of each value, of all that do not decrease, or nil if there are none.
func leastRising(all [][]int) []int {
	var least []int
	for _, l := range all {
		if !slices.IsSorted(l) {
			continue
		}
		if least == nil {
			least = append([]int{}, l...)
		}
		for i, n := range l {
			least[i] = min(least[i], n)
		}
	}
	return least
}

// wantFalls compares Falls with all pairs of values, and expects that it tells none just where Monotone returns a list.
func wantFalls(t *testing.T, s api.Series, all [][]int) {
	t.Helper()
	var want []int
search:
	for i := range s.Values {
		for k := i + 1; k < len(s.Values); k++ {
			if !slices.ContainsFunc(all, func(l []int) bool { return l[k] >= l[i] }) {
				want = []int{s.Values[i].Time, s.Values[k].Time}
				break search
			}
		}
	}
	times, e := century.Falls(s)
	if !slices.Equal(times, want) || (e == api.OK) != (want != nil) || want == nil && e != api.ErrNone {
		t.Fatal(s, times, e, want)
	}
	if _, other := century.Monotone(s); (other == api.ErrNone) != (e == api.OK) {
		t.Fatal(s, e, other)
	}
}

// A law is least differences of variables: the levels of values, then the sums of shifts up to them.
type law [][]int

const far = -1 << 40

// lawOf returns the law of the values from one to ahead of another one of a series.
func lawOf(s api.Series, from, to int) law {
	n := to - from
	l := make(law, 2*n+1)
	for i := range l {
		l[i] = slices.Repeat([]int{far}, 2*n+1)
	}
	for i := range n {
		v := s.Values[from+i]
		// The last variable is 0: sums are reckoned from it.
		before, sum := 2*n, api.Span{}
		for _, x := range s.Shifts {
			if x.Time <= v.Time && (i == 0 || x.Time > s.Values[from+i-1].Time) {
				sum = span(sum.Lo+x.Levels.Lo, sum.Hi+x.Levels.Hi)
			}
		}
		if i > 0 {
			before = n + i - 1
		}
		l.atLeast(n+i, before, sum.Lo)
		l.atLeast(before, n+i, -sum.Hi)
	}
	return l
}

// atLeast says that a variable is at least another one, and so much more.
func (l law) atLeast(a, b, by int) { l[a][b] = max(l[a][b], by) }

// close follows what the law says by way of others; it reports whether it can be kept.
func (l law) close() bool {
	for via := range l {
		for a := range l {
			for b := range l {
				l[a][b] = max(l[a][b], l[a][via]+l[via][b], 2*far)
			}
		}
	}
	for i := range l {
		if l[i][i] > 0 {
			return false
		}
	}
	return true
}

// evenLaw is the law of values that are even by a number. The first variables are the opposite levels, as these and the sums of shifts have a sum within bounds.
func evenLaw(s api.Series, from, to, most int) law {
	l, n := lawOf(s, from, to), to-from
	for i := range n {
		v := s.Values[from+i]
		l.atLeast(n+i, i, v.Levels.Lo)
		l.atLeast(i, n+i, -v.Levels.Hi)
		for k := range n {
			l.atLeast(i, k, -most)
		}
	}
	return l
}

// TestLonger compares Monotone and Steps with the laws of longer series.
func TestLonger(t *testing.T) {
	x := newDice(8)
	fallen, whole, bent, parts := 0, 0, 0, 0
	for range 2500 {
		s := x.series(medium())
		for i := range s.Values {
			// Levels that rise a little are not always contradicted.
			s.Values[i].Levels.Lo += i * x.from(0, 2)
			s.Values[i].Levels.Hi = max(s.Values[i].Levels.Lo, s.Values[i].Levels.Hi+2*i)
		}
		ok, isBent := compareRising(t, s)
		if ok {
			whole++
		} else {
			fallen++
		}
		if isBent {
			bent++
		}
		most := x.from(0, 8)
		n, times, _ := century.Steps(s, most)
		parts += n
		from := 0
		for _, time := range times {
			to := slices.IndexFunc(s.Values, func(v api.Value) bool { return v.Time == time })
			if to <= from || !evenLaw(s, from, to, most).close() || evenLaw(s, from, to+1, most).close() {
				t.Fatal(s, most, times)
			}
			from = to
		}
		if !evenLaw(s, from, len(s.Values), most).close() {
			t.Fatal(s, most, times)
		}
	}
	enough(t, fallen, 200)
	enough(t, whole, 200)
	enough(t, bent, 50)
	enough(t, parts, 1000)
}

// compareRising compares Monotone with the law of levels that do not decrease. It also reports whether it tells more than the greatest lower bound of the values up to each.
func compareRising(t *testing.T, s api.Series) (ok, bent bool) {
	t.Helper()
	n := len(s.Values)
	l := lawOf(s, 0, n)
	// Opposite levels must not increase.
	for i, v := range s.Values {
		l.atLeast(n+i, i, v.Levels.Lo)
		l.atLeast(i, n+i, -v.Levels.Hi)
		if i > 0 {
			l.atLeast(i-1, i, 0)
		}
	}
	levels, e := century.Monotone(s)
	ok = l.close()
	if ok != (e == api.OK) || !ok && e != api.ErrNone {
		t.Fatal(s, levels, e)
	}
	evens, highest := must(century.Evens(s)), far
	for i, level := range levels {
		// The level is at least what it must be above 0, the last variable.
		if level != l[2*n][i] {
			t.Fatal(s, levels, i, l[2*n][i])
		}
		highest = max(highest, evens[i].Lo)
		bent = bent || level > highest
	}
	return ok, bent
}
