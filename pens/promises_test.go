package pens_test

import (
	"slices"
	"testing"

	"aneroid/api"
	"aneroid/pens"
)

// TestFollowing is P3.2, as to Step, Follow and Keeps.
func TestFollowing(t *testing.T) {
	x := newDice(1)
	kept, refused := 0, 0
	for range 400 {
		p := x.pen(3)
		real := x.walk(p, x.from(1, 12))
		first := x.first(p, real)
		shown := must(pens.Follow(p, first, real))
		if !slices.Equal(shown, shownOf(p, first, real)) || !mayBe(p, shown, real) {
			t.Fatal(p, first, real, shown)
		}
		m := moment(first, real[0])
		var l []api.Moment
		for i, n := range real {
			if i > 0 {
				m = must(pens.Step(p, m, n))
			}
			if m != moment(shown[i], n) {
				t.Fatal(p, first, real, shown, m)
			}
			l = append(l, m)
		}
		if e := pens.Keeps(p, l); e != api.OK {
			t.Fatal(p, l, e)
		}
		kept++
		at := x.IntN(len(l))
		l[at].Shown += x.from(-1, 1)
		l[at].Real += x.from(-1, 1)
		var changed, reals []int
		for _, m := range l {
			changed, reals = append(changed, m.Shown), append(reals, m.Real)
		}
		want := api.ErrStuck
		if mayBe(p, changed, reals) {
			want = api.OK
			kept++
		} else {
			refused++
		}
		if e := pens.Keeps(p, l); e != want {
			t.Fatal(p, l, e, want)
		}
		again, e := pens.Follow(p, changed[0], reals)
		if (e == api.OK && slices.Equal(again, changed)) != (want == api.OK) {
			t.Fatal(p, changed, reals, again, e)
		}
	}
	enough(t, kept, 450)
	enough(t, refused, 200)
}

// TestFollowAndStepExactly is the rest of N3 and N4: all numbers that are near are tried.
func TestFollowAndStepExactly(t *testing.T) {
	for band := range 4 {
		for rate := range 7 {
			p := pen(band, rate)
			for shown := -6; shown <= 6; shown++ {
				for real := -8; real <= 8; real++ {
					before, m := moment(shown, 0), moment(law(p, shown, real), real)
					want := api.ErrStuck
					if isRight(p, before) && follows(p, before, m) {
						want = api.OK
					}
					after, e := pens.Step(p, before, real)
					if e != want || e == api.OK && after != m || e != api.OK && after != moment(0, 0) {
						t.Fatal(p, before, real, after, e)
					}
					l, e := pens.Follow(p, shown, []int{0, real})
					if e != want || e == api.OK && !slices.Equal(l, []int{shown, m.Shown}) {
						t.Fatal(p, before, real, l, e)
					}
				}
			}
		}
	}
}

// TestMovesExactly is P3.2, as to Moves: a moment follows another one if and only if an edge says so.
func TestMovesExactly(t *testing.T) {
	for band := range 4 {
		for rate := range 12 {
			p := pen(band, rate)
			for offset := -band; offset <= band; offset++ {
				var want []api.Edge
				for to := -band; to <= band; to++ {
					if s, ok := changesOf(p, offset, to); ok {
						want = append(want, api.Edge{To: to + band, Change: s})
					}
				}
				l, e := pens.Moves(p, offset)
				if e != api.OK || !slices.Equal(l, want) {
					t.Fatal(p, offset, l, want, e)
				}
			}
		}
	}
}

// changesOf returns the least and the greatest difference of what is shown by two moments with these offsets of which one follows the other. All between must occur.
func changesOf(p api.Pen, from, to int) (api.Span, bool) {
	var l []int
	before := moment(0, from)
	for shown := -30; shown <= 30; shown++ {
		if follows(p, before, moment(shown, shown+to)) {
			l = append(l, shown)
		}
	}
	if len(l) == 0 {
		return api.Span{}, false
	}
	if spread(l)+1 != len(l) {
		panic("a number between does not occur")
	}
	return span(l[0], l[len(l)-1]), true
}

// TestLazy is P3.3.
func TestLazy(t *testing.T) {
	x := newDice(2)
	seen, least := 0, 0
	for range 150 {
		p := x.pen(2)
		real := x.walk(p, x.from(2, 6))
		shown := must(pens.Follow(p, x.first(p, real), real))
		lines(real, p.Band, func(line []int) {
			if line[0] != shown[0] {
				return
			}
			seen++
			if moved(line) < moved(shown) {
				t.Fatal(p, real, shown, line)
			}
			if moved(line) == moved(shown) {
				least++
			}
		})
	}
	enough(t, seen, 10000)
	enough(t, least, 150)
}

// TestRealsExactly is N7 to N10, and P3.4 as to Lowest, Highest and Real: all real levels are gone through.
func TestRealsExactly(t *testing.T) {
	x := newDice(3)
	some, none := 0, 0
	for range 800 {
		p := x.pen(2)
		shown := x.steps(x.from(1, 6), x.from(0, 3))
		all := realsOf(p, shown)
		reals, e := pens.Reals(p, shown)
		if len(all) == 0 {
			if e != api.ErrStuck || len(reals) != 0 {
				t.Fatal(p, shown, reals, e)
			}
			none++
			continue
		}
		some++
		lowest, highest, real := must(pens.Lowest(p, shown)), must(pens.Highest(p, shown)), must(pens.Real(p, shown))
		for i, s := range reals {
			occur := map[int]bool{}
			for _, l := range all {
				occur[l[i]] = true
			}
			for n := shown[i] - 10; n <= shown[i]+10; n++ {
				if occur[n] != (s.Lo <= n && n <= s.Hi) {
					t.Fatal(p, shown, i, s, n)
				}
				if occur[n] && distance(n, shown[i]) < distance(real[i], shown[i]) {
					t.Fatal(p, shown, real)
				}
			}
			if lowest[i] != s.Lo || highest[i] != s.Hi {
				t.Fatal(p, shown, reals, lowest, highest)
			}
		}
		for _, l := range [][]int{lowest, highest, real} {
			if !mayBe(p, shown, l) || !slices.Equal(shown, must(pens.Follow(p, shown[0], l))) {
				t.Fatal(p, shown, l)
			}
		}
	}
	enough(t, some, 100)
	enough(t, none, 100)
}

// TestLattice is the rest of P3.4, with lists that no function found.
func TestLattice(t *testing.T) {
	x := newDice(4)
	seen := 0
	for range 600 {
		p := x.pen(3)
		shown := x.steps(x.from(1, 5), x.from(0, 2))
		all := realsOf(p, shown)
		if len(all) < 3 {
			continue
		}
		seen++
		lowest, highest := must(pens.Lowest(p, shown)), must(pens.Highest(p, shown))
		for range 20 {
			a, b, c := all[x.IntN(len(all))], all[x.IntN(len(all))], all[x.IntN(len(all))]
			if !slices.Equal(middles(lowest, a, highest), a) {
				t.Fatal(p, shown, a, lowest, highest)
			}
			lesser, greater := slices.Clone(a), slices.Clone(a)
			for i := range a {
				lesser[i], greater[i] = min(a[i], b[i]), max(a[i], b[i])
			}
			for _, l := range [][]int{lesser, greater, middles(a, b, c)} {
				if !slices.Equal(must(pens.Follow(p, shown[0], l)), shown) {
					t.Fatal(p, shown, a, b, c, l)
				}
			}
		}
	}
	enough(t, seen, 200)
}

// TestNeverFurtherApart is P3.5, and N14.
func TestNeverFurtherApart(t *testing.T) {
	x := newDice(5)
	forgotten, kept := 0, 0
	for range 400 {
		p := x.pen(4)
		real := x.walk(p, x.from(1, 12))
		starts := must(pens.Starts(p, real[0]))
		var all [][]int
		for first := starts.Lo; first <= starts.Hi; first++ {
			all = append(all, must(pens.Follow(p, first, real)))
		}
		want := -1
		for i := range real {
			swing := must(pens.Swing(real[:i+1]))
			if all[len(all)-1][i]-all[0][i] != max(0, 2*p.Band-(swing.Hi-swing.Lo)) {
				t.Fatal(p, real, i, all)
			}
			same := true
			for a := 1; a < len(all); a++ {
				if all[a][i] < all[a-1][i] {
					t.Fatal(p, real, i, all)
				}
				same = same && all[a][i] == all[0][i]
			}
			if same && want < 0 {
				want = i
			}
			if want >= 0 && !same {
				t.Fatal(p, real, i, all)
			}
		}
		n, e := pens.Forgets(p, real)
		if want < 0 {
			kept++
			if n != 0 || e != api.ErrNone {
				t.Fatal(p, real, n, e)
			}
			continue
		}
		forgotten++
		if n != want || e != api.OK {
			t.Fatal(p, real, n, want, e)
		}
	}
	enough(t, forgotten, 100)
	enough(t, kept, 100)
}

// TestMonotoneAndEven is P3.6.
func TestMonotoneAndEven(t *testing.T) {
	x := newDice(6)
	greater, moving := 0, 0
	for range 600 {
		p := x.pen(4)
		count := x.from(1, 12)
		a, b := x.walk(p, count), x.walk(p, count)
		apart := 0
		for i := range a {
			apart = max(apart, distance(a[i], b[i]))
		}
		shownA, first := must(pens.Follow(p, x.first(p, a), a)), x.first(p, b)
		if distance(shownA[0], first) <= apart {
			shownB := must(pens.Follow(p, first, b))
			moving++
			for i := range a {
				if distance(shownA[i], shownB[i]) > apart {
					t.Fatal(p, a, b, shownA, shownB)
				}
			}
		}
		// The greater ones of both lists change no faster than both.
		for i := range b {
			b[i] = max(a[i], b[i])
		}
		for first = max(shownA[0], b[0]-p.Band); first <= b[0]+p.Band; first++ {
			greater++
			for i, n := range must(pens.Follow(p, first, b)) {
				if n < shownA[i] {
					t.Fatal(p, a, b, shownA, i, n)
				}
			}
		}
	}
	enough(t, greater, 300)
	enough(t, moving, 200)
}

// TestMemoryExactly is N16, and P3.7.
func TestMemoryExactly(t *testing.T) {
	x := newDice(7)
	narrow, wide := 0, 0
	for range 600 {
		p := x.pen(4)
		real := x.walk(p, x.from(1, 14))
		remembered := must(pens.Memory(p, real))
		if !slices.Equal(remembered, rememberedOf(p, real)) {
			t.Fatal(p, real, remembered)
		}
		levels := pick(real, remembered)
		for first := real[0] - p.Band; first <= real[0]+p.Band; first++ {
			shown := must(pens.Follow(p, first, real))
			last := first
			if spread(levels) < 2*p.Band {
				narrow++
			} else {
				wide++
				last = x.from(-50, 50) // the first number does not matter
			}
			for _, n := range levels {
				last = min(max(last, n-p.Band), n+p.Band)
			}
			if last != shown[len(shown)-1] {
				t.Fatal(p, real, remembered, shown, last)
			}
		}
		again := must(pens.Memory(p, levels))
		if len(again) != len(levels) || again[len(again)-1] != len(levels)-1 {
			t.Fatal(p, levels, again)
		}
	}
	enough(t, narrow, 400)
	enough(t, wide, 400)
}

// rememberedOf returns the indices that are remembered, as the chapter words them.
func rememberedOf(p api.Pen, real []int) []int {
	var l []int
	for i, n := range real {
		behind := real[i+1:]
		if len(behind) == 0 {
			l = append(l, i)
			continue
		}
		if (n > slices.Max(behind) || n < slices.Min(behind)) && spread(behind) < 2*p.Band {
			l = append(l, i)
		}
	}
	return l
}

// TestPenThatFollowsAPen is P3.8.
func TestPenThatFollowsAPen(t *testing.T) {
	x := newDice(8)
	seen, three := 0, 0
	for range 500 {
		p, q, r := x.pen(3), x.pen(3), x.pen(3)
		q.Rate = max(p.Rate, q.Rate)
		r.Rate = max(q.Rate, r.Rate)
		both, e := pens.Add(p, q)
		if e != api.OK {
			continue
		}
		real := x.walk(p, x.from(1, 14))
		shown := must(pens.Follow(p, x.first(p, real), real))
		first := x.first(q, shown)
		if !slices.Equal(must(pens.Follow(q, first, shown)), must(pens.Follow(both, first, real))) {
			t.Fatal(p, q, real, shown, first)
		}
		seen++
		others, e := pens.Add(q, r)
		if e != api.OK {
			continue
		}
		one, e := pens.Add(both, r)
		other, f := pens.Add(p, others)
		if e != f || one != other {
			t.Fatal(p, q, r, one, e, other, f)
		}
		if e == api.OK {
			three++
		}
	}
	enough(t, seen, 300)
	enough(t, three, 150)
}

// TestTurnsExactly is N15, and P3.9.
func TestTurnsExactly(t *testing.T) {
	x := newDice(9)
	seen, straight := 0, 0
	for range 600 {
		p := x.pen(3)
		l := x.steps(x.from(1, 9), 2)
		turns := must(pens.Turns(l))
		if !slices.Equal(turns, turnsOf(l)) {
			t.Fatal(l, turns)
		}
		seen += len(turns)
		bounds := slices.Concat([]int{0}, turns, []int{len(l) - 1})
		for i := 1; i < len(bounds); i++ {
			if !isStraight(l[bounds[i-1] : bounds[i]+1]) {
				t.Fatal(l, turns)
			}
		}
		p.Rate = max(p.Rate, 2)
		for first := l[0] - p.Band; first <= l[0]+p.Band && len(turns) == 0; first++ {
			straight++
			shown := must(pens.Follow(p, first, l))
			if !isStraight(shown) || slices.IsSorted(l) && !slices.IsSorted(shown) {
				t.Fatal(p, l, shown)
			}
		}
	}
	enough(t, seen, 300)
	enough(t, straight, 300)
}

// turnsOf returns where a list turns, as the chapter words it.
func turnsOf(l []int) []int {
	var found []int
	for i := 1; i < len(l); i++ {
		if l[i] == l[i-1] {
			continue
		}
		for _, n := range l[i:] {
			if n != l[i] {
				if (n > l[i]) == (l[i-1] > l[i]) {
					found = append(found, i)
				}
				break
			}
		}
	}
	return found
}

// isStraight reports whether a list only rises, or only falls.
func isStraight(l []int) bool {
	return slices.IsSorted(l) || slices.IsSorted(opposite(l))
}

// TestUpsideDown is P3.10.
func TestUpsideDown(t *testing.T) {
	x := newDice(10)
	agreeing, stuck := 0, 0
	for range 500 {
		p := x.pen(4)
		real := x.walk(p, x.from(1, 12))
		first := x.first(p, real)
		shown := must(pens.Follow(p, first, real))
		if !slices.Equal(opposite(shown), must(pens.Follow(p, -first, opposite(real)))) {
			t.Fatal(p, first, real)
		}
		if !slices.Equal(must(pens.Memory(p, real)), must(pens.Memory(p, opposite(real)))) {
			t.Fatal(p, real)
		}
		if !slices.Equal(must(pens.Turns(real)), must(pens.Turns(opposite(real)))) {
			t.Fatal(real)
		}
		for _, l := range [][]int{shown, x.steps(4, 2)} {
			a, e := pens.Reals(p, l)
			b, f := pens.Reals(p, opposite(l))
			if e != f || len(a) != len(b) {
				t.Fatal(p, l, e, f)
			}
			for i := range a {
				if b[i] != span(-a[i].Hi, -a[i].Lo) {
					t.Fatal(p, l, a, b)
				}
			}
			if e == api.OK {
				agreeing++
			} else {
				stuck++
			}
		}
	}
	enough(t, agreeing, 500)
	enough(t, stuck, 100)
}

// TestStuckExactly is the rest of N12: the runs are apart, and each two equal neighbours are in one of them.
func TestStuckExactly(t *testing.T) {
	x := newDice(11)
	seen := 0
	for range 300 {
		l := x.steps(x.from(1, 12), 1)
		runs := must(pens.Stuck(pen(0, 0), l))
		seen += len(runs)
		in := make([]int, len(l))
		for i := range in {
			in[i] = -1
		}
		for r, s := range runs {
			if s.Lo >= s.Hi || r > 0 && s.Lo <= runs[r-1].Hi {
				t.Fatal(l, runs)
			}
			for i := s.Lo; i <= s.Hi; i++ {
				in[i] = r
			}
		}
		for i := 1; i < len(l); i++ {
			if (l[i] == l[i-1]) != (in[i] >= 0 && in[i] == in[i-1]) {
				t.Fatal(l, runs)
			}
		}
	}
	enough(t, seen, 300)
}
