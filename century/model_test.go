package century_test

import (
	"math/big"
	"slices"

	"aneroid/api"
)

// The following functions are the words of the chapter.

func evenOf(s api.Series, levels, shifts []int) []int {
	even := make([]int, len(levels))
	for i, v := range s.Values {
		even[i] = levels[i]
		for k, x := range s.Shifts {
			if x.Time <= v.Time {
				even[i] -= shifts[k]
			}
		}
	}
	return even
}

// allEvens returns the adjusted levels of all levels and shifts that agree, by going through all of them.
func allEvens(s api.Series) [][]int {
	var spans []api.Span
	for _, v := range s.Values {
		spans = append(spans, v.Levels)
	}
	for _, x := range s.Shifts {
		spans = append(spans, x.Levels)
	}
	var all [][]int
	numbers, n := make([]int, len(spans)), len(s.Values)
	var fill func(at int)
	fill = func(at int) {
		if at == len(spans) {
			all = append(all, evenOf(s, numbers[:n], numbers[n:]))
			return
		}
		for x := spans[at].Lo; x <= spans[at].Hi; x++ {
			numbers[at] = x
			fill(at + 1)
		}
	}
	fill(0)
	return all
}

// differencesOf returns the common times of two series, and the differences of all levels and shifts that agree with both.
func differencesOf(s, t api.Series) (times []int, all [][]int) {
	var first, second []int
	for i, v := range s.Values {
		for k, x := range t.Values {
			if v.Time == x.Time {
				times = append(times, v.Time)
				first, second = append(first, i), append(second, k)
			}
		}
	}
	others := allEvens(t)
	for _, a := range allEvens(s) {
		for _, b := range others {
			d := make([]int, len(times))
			for i := range d {
				d[i] = a[first[i]] - b[second[i]]
			}
			all = append(all, d)
		}
	}
	return times, all
}

// pick returns the numbers of a list that belong to the values in a span of times.
func pick(s api.Series, times api.Span, l []int) []int {
	var picked []int
	for i, v := range s.Values {
		if contains(times, v.Time) {
			picked = append(picked, l[i])
		}
	}
	return picked
}

func meanOf(l []int) *big.Rat {
	sum := 0
	for _, n := range l {
		sum += n
	}
	return big.NewRat(int64(sum), int64(len(l)))
}

func slopeOf(s api.Series, even []int) *big.Rat {
	n, t, y, ty, tt := big.NewInt(int64(len(even))), new(big.Int), new(big.Int), new(big.Int), new(big.Int)
	for i, v := range s.Values {
		time, level := big.NewInt(int64(v.Time)), big.NewInt(int64(even[i]))
		t.Add(t, time)
		y.Add(y, level)
		ty.Add(ty, new(big.Int).Mul(time, level))
		tt.Add(tt, new(big.Int).Mul(time, time))
	}
	num := new(big.Int).Sub(new(big.Int).Mul(n, ty), new(big.Int).Mul(t, y))
	den := new(big.Int).Sub(new(big.Int).Mul(n, tt), new(big.Int).Mul(t, t))
	return new(big.Rat).SetFrac(num, den)
}

func rankOf(even []int, at int) int {
	rank := 0
	for _, level := range even {
		if level < even[at] {
			rank++
		}
	}
	return rank
}

// areEven reports whether any two numbers differ by at most a number.
func areEven(l []int, most int) bool {
	return len(l) == 0 || slices.Max(l)-slices.Min(l) <= most
}

// canBeEven reports whether some of the values, from one to ahead of another one, can be even by a number.
func canBeEven(all [][]int, from, to, most int) bool {
	return slices.ContainsFunc(all, func(even []int) bool { return areEven(even[from:to], most) })
}

// endsOf returns the least and the greatest of what a function tells of all lists.
func endsOf(all [][]int, tell func(l []int) int) api.Span {
	var ends api.Span
	for i, l := range all {
		n := tell(l)
		if i == 0 {
			ends = span(n, n)
		}
		ends = span(min(ends.Lo, n), max(ends.Hi, n))
	}
	return ends
}

// rationalEnds does so for fractions.
func rationalEnds(all [][]int, tell func(l []int) *big.Rat) (low, high *big.Rat) {
	for _, l := range all {
		x := tell(l)
		if low == nil || x.Cmp(low) < 0 {
			low = x
		}
		if high == nil || x.Cmp(high) > 0 {
			high = x
		}
	}
	return low, high
}

// signOf returns 1 if both ends are above 0, -1 if both are below, and otherwise 0.
func signOf(low, high *big.Rat) int {
	if low.Sign() == high.Sign() {
		return low.Sign()
	}
	return 0
}
