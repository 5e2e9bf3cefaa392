package clocks_test

import (
	"slices"
	"testing"

	"aneroid/api"
	"aneroid/clocks"
)

// TestEarlierAndLater is P2.2.
func TestEarlierAndLater(t *testing.T) {
	x := newDice(10)
	l := feasible(problems(10, 300, 3))
	enough(t, len(l), 100)
	for _, p := range l {
		first, last := must(clocks.Earliest(p.d, p.m)), must(clocks.Latest(p.d, p.m))
		for _, ticks := range [][]int{first, last} {
			if !slices.ContainsFunc(p.all, func(l []int) bool { return slices.Equal(l, ticks) }) {
				t.Fatal(p.d, p.m, ticks)
			}
		}
		for _, ticks := range p.all {
			if !isAhead(first, ticks) || !isAhead(ticks, last) || clocks.Keeps(p.d, p.m, ticks) != api.OK {
				t.Fatal(p.d, p.m, first, ticks, last)
			}
		}
		for range 20 {
			a, b := p.all[x.IntN(len(p.all))], p.all[x.IntN(len(p.all))]
			for _, ticks := range [][]int{columnwise(lesser, a, b), columnwise(greater, a, b)} {
				if e := clocks.Keeps(p.d, p.m, ticks); e != api.OK {
					t.Fatal(p.d, p.m, a, b, e)
				}
			}
		}
	}
}

// TestKeepsExactly is the rest of C4: a list that is no reading is not taken.
func TestKeepsExactly(t *testing.T) {
	x := newDice(11)
	taken, refused := 0, 0
	for _, p := range feasible(problems(11, 300, 3)) {
		for range 20 {
			ticks := slices.Clone(p.free[x.IntN(len(p.free))])
			ticks[x.IntN(len(ticks))] += x.from(-2, 2)
			want := api.ErrTime
			if slices.ContainsFunc(p.all, func(l []int) bool { return slices.Equal(l, ticks) }) {
				want = api.OK
				taken++
			} else {
				refused++
			}
			if e := clocks.Keeps(p.d, p.m, ticks); e != want {
				t.Fatal(p.d, p.m, ticks, e, want)
			}
		}
	}
	enough(t, taken, 200)
	enough(t, refused, 200)
}

// TestMedians is P2.3, as to medians.
func TestMedians(t *testing.T) {
	x := newDice(12)
	l := feasible(problems(12, 200, 3))
	enough(t, len(l), 80)
	for _, p := range l {
		for range 20 {
			a, b, c := p.all[x.IntN(len(p.all))], p.all[x.IntN(len(p.all))], p.all[x.IntN(len(p.all))]
			median := must(clocks.Median(p.d, p.m, a, b, c))
			if e := clocks.Keeps(p.d, p.m, median); e != api.OK {
				t.Fatal(p.d, p.m, a, b, c, median)
			}
			for i, tick := range median {
				three := []int{a[i], b[i], c[i]}
				slices.Sort(three)
				if tick != three[1] {
					t.Fatal(a, b, c, median)
				}
			}
		}
	}
	good, bad := []int{10, 12, 16, 20}, []int{10, 12, 16, 23}
	for i, three := range [][3][]int{{bad, good, good}, {good, bad, good}, {good, good, bad}, {good, good, good[:3]}, {nil, good, good}, {good, append(good, 24), good}} {
		if l, e := clocks.Median(example(), marks(), three[0], three[1], three[2]); len(l) != 0 || e != api.ErrTime {
			t.Error(i, l, e)
		}
	}
}

// TestDifferences is P2.4.
func TestDifferences(t *testing.T) {
	l := feasible(problems(13, 200, 3))
	enough(t, len(l), 80)
	for _, p := range l {
		for a := range p.columns() {
			for b := range p.columns() {
				s := must(clocks.Between(p.d, p.m, a, b))
				if !slices.Equal(list(s), numbers(p.all, func(ticks []int) int { return ticks[b] - ticks[a] })) {
					t.Fatal(p.d, p.m, a, b, s)
				}
				if back := must(clocks.Between(p.d, p.m, b, a)); back != span(-s.Hi, -s.Lo) {
					t.Fatal(p.d, p.m, a, b, s, back)
				}
				for c := range p.columns() {
					to, from := must(clocks.Between(p.d, p.m, a, c)), must(clocks.Between(p.d, p.m, c, b))
					if to.Lo+from.Lo > s.Lo || to.Hi+from.Hi < s.Hi {
						t.Fatal(p.d, p.m, a, b, c, s, to, from)
					}
				}
			}
		}
	}
}

// TestTicks is P2.5.
func TestTicks(t *testing.T) {
	l := feasible(problems(14, 150, 3))
	enough(t, len(l), 50)
	for _, p := range l {
		for c := range p.columns() {
			s := must(clocks.Span(p.d, p.m, c))
			if !slices.Equal(list(s), numbers(p.all, func(ticks []int) int { return ticks[c] })) {
				t.Fatal(p.d, p.m, c, s)
			}
			var ahead []int
			for tick := max(0, s.Lo-2); tick <= min(api.MaxTicks, s.Hi+2); tick++ {
				ticks, e := clocks.With(p.d, p.m, c, tick)
				if tick < s.Lo || tick > s.Hi {
					if len(ticks) != 0 || e != api.ErrNone {
						t.Fatal(p.d, p.m, c, tick, ticks, e)
					}
					continue
				}
				if e != api.OK || ticks[c] != tick || clocks.Keeps(p.d, p.m, ticks) != api.OK || !isAhead(ahead, ticks) && ahead != nil {
					t.Fatal(p.d, p.m, c, tick, ticks, e)
				}
				for _, other := range keeping(p.all, mark(c, tick, tick)) {
					if !isAhead(ticks, other) {
						t.Fatal(p.d, p.m, c, tick, ticks, other)
					}
				}
				ahead = ticks
			}
		}
	}
}

// TestColumns is P2.6.
func TestColumns(t *testing.T) {
	l := feasible(problems(15, 60, 3))
	enough(t, len(l), 20)
	for _, p := range l {
		before := span(-1, -1)
		for tick := range api.MaxTicks + 1 {
			s := must(clocks.At(p.d, p.m, tick))
			passed := func(ticks []int) int {
				last := -1
				for c, n := range ticks {
					if n <= tick {
						last = c
					}
				}
				return last
			}
			if !slices.Equal(list(s), numbers(p.all, passed)) || s.Lo < before.Lo || s.Hi < before.Hi {
				t.Fatal(p.d, p.m, tick, s, before)
			}
			before = s
		}
	}
}

// TestRuns is P2.9.
func TestRuns(t *testing.T) {
	l := feasible(problems(16, 150, 3))
	enough(t, len(l), 50)
	for _, p := range l {
		together := make([]api.Span, p.columns())
		runs := 0
		for tick := range api.MaxTicks + 1 {
			run, e := clocks.Run(p.d, p.m, tick)
			in := keeping(p.all, mark(0, tick, tick))
			if len(in) == 0 {
				if len(run) != 0 || e != api.ErrNone {
					t.Fatal(p.d, p.m, tick, run, e)
				}
				continue
			}
			if e != api.OK || len(run) != p.columns() || run[0] != span(tick, tick) {
				t.Fatal(p.d, p.m, tick, run, e)
			}
			for c, s := range run {
				if !slices.Equal(list(s), numbers(in, func(ticks []int) int { return ticks[c] })) {
					t.Fatal(p.d, p.m, tick, c, s)
				}
				if runs == 0 {
					together[c] = s
				}
				together[c] = span(min(together[c].Lo, s.Lo), max(together[c].Hi, s.Hi))
			}
			runs++
		}
		for c, s := range together {
			if s != must(clocks.Span(p.d, p.m, c)) {
				t.Fatal(p.d, p.m, c, s)
			}
		}
	}
}

// TestRates is P2.10.
func TestRates(t *testing.T) {
	l := feasible(problems(17, 300, 3))
	enough(t, len(l), 100)
	for _, p := range l {
		for a := range p.columns() {
			gaps, least, most := api.Span{}, api.MaxTicks*20, 0
			for b := a + 1; b < p.columns(); b++ {
				gap := must(clocks.Gap(p.d, b-1))
				gaps = span(gaps.Lo+gap.Lo, gaps.Hi+gap.Hi)
				least, most = min(least, gap.Lo), max(most, gap.Hi)
				s := must(clocks.Between(p.d, p.m, a, b))
				if s.Lo < gaps.Lo || s.Hi > gaps.Hi {
					t.Fatal(p.d, p.m, a, b, s, gaps)
				}
				low, high, e := clocks.Drift(p.d, p.m, a, b)
				if e != api.OK || !isRatio(low, s.Lo, b-a) || !isRatio(high, s.Hi, b-a) {
					t.Fatal(p.d, p.m, a, b, low, high, e)
				}
				if low.Num < least*low.Den || high.Num > most*high.Den {
					t.Fatal(p.d, p.m, a, b, low, high)
				}
			}
		}
	}
}

// isRatio reports whether a fraction is n/by, in lowest terms.
func isRatio(r api.Ratio, n, by int) bool {
	for d := 2; d <= r.Den; d++ {
		if r.Num%d == 0 && r.Den%d == 0 {
			return false
		}
	}
	return r.Den > 0 && r.Num*by == n*r.Den
}

// TestStops is P2.11.
func TestStops(t *testing.T) {
	x := newDice(18)
	l := feasible(problems(18, 100, 3))
	enough(t, len(l), 40)
	for _, p := range l {
		d := must(clocks.Wind(p.d, stop(x.IntN(len(p.d.Rates)), 0, x.from(0, 5))))
		for _, ticks := range p.all {
			if e := clocks.Keeps(d, p.m, ticks); e != api.OK {
				t.Fatal(p.d, d, p.m, ticks)
			}
		}
		wider := func(a, b api.Span) bool { return a.Lo <= b.Lo && b.Hi <= a.Hi }
		for a := range p.columns() {
			if !wider(must(clocks.Span(d, p.m, a)), must(clocks.Span(p.d, p.m, a))) {
				t.Fatal(p.d, d, p.m, a)
			}
			for b := range p.columns() {
				if !wider(must(clocks.Between(d, p.m, a, b)), must(clocks.Between(p.d, p.m, a, b))) {
					t.Fatal(p.d, d, p.m, a, b)
				}
			}
		}
		for tick := range api.MaxTicks + 1 {
			if !wider(must(clocks.At(d, p.m, tick)), must(clocks.At(p.d, p.m, tick))) {
				t.Fatal(p.d, d, p.m, tick)
			}
		}
	}
}

// TestBackwards is P2.12.
func TestBackwards(t *testing.T) {
	reversed := func(ticks []int) []int {
		l := slices.Clone(ticks)
		slices.Reverse(l)
		for i := range l {
			l[i] = api.MaxTicks - l[i]
		}
		return l
	}
	l := problems(19, 300, 3)
	enough(t, len(feasible(slices.Clone(l))), 100)
	for _, p := range l {
		d, m := backwards(p)
		first, e := clocks.Earliest(d, m)
		last, f := clocks.Latest(d, m)
		if len(p.all) == 0 {
			if e != api.ErrTime || f != api.ErrTime {
				t.Fatal(p.d, p.m, e, f)
			}
			continue
		}
		if !slices.Equal(reversed(first), must(clocks.Latest(p.d, p.m))) || !slices.Equal(reversed(last), must(clocks.Earliest(p.d, p.m))) {
			t.Fatal(p.d, p.m, first, last)
		}
		for _, ticks := range p.all {
			if e := clocks.Keeps(d, m, reversed(ticks)); e != api.OK {
				t.Fatal(p.d, p.m, ticks)
			}
		}
	}
}

// backwards returns the drum and the marks of a problem, counted from the end.
func backwards(p problem) (api.Drum, []api.Mark) {
	d := api.Drum{Rates: slices.Clone(p.d.Rates)}
	slices.Reverse(d.Rates)
	for _, s := range p.d.Stops {
		d.Stops = append(d.Stops, api.Stop{Column: len(d.Rates) - 1 - s.Column, Ticks: s.Ticks})
	}
	var m []api.Mark
	for _, n := range p.m {
		m = append(m, mark(len(d.Rates)-n.Column, api.MaxTicks-n.Ticks.Hi, api.MaxTicks-n.Ticks.Lo))
	}
	return d, m
}
