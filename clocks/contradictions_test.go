package clocks_test

import (
	"slices"
	"testing"

	"aneroid/api"
	"aneroid/clocks"
)

func TestAgree(t *testing.T) {
	for i, c := range []struct {
		a, b api.Mark
		want bool
	}{
		{mark(0, 10, 12), mark(3, 20, 22), true},
		{mark(0, 10, 12), mark(2, 10, 13), false},
		{mark(2, 10, 13), mark(0, 10, 12), false},
		{mark(1, 5, 5), mark(1, 5, 5), true},
		{mark(1, 5, 5), mark(1, 6, 6), false},
		{mark(3, 0, 4), mark(3, 0, 4), false},
		{mark(0, 0, 400), mark(3, 0, 4), false},
	} {
		if ok, e := clocks.Agree(example(), c.a, c.b); ok != c.want || e != api.OK {
			t.Error(i, ok, e)
		}
	}
	if ok, e := clocks.Agree(slow(), mark(0, 0, 400), mark(1, 0, 400)); ok || e != api.OK {
		t.Error(ok, e)
	}
	for _, bad := range badMarks() {
		if ok, e := clocks.Agree(example(), bad, mark(0, 0, 1)); ok || e != api.ErrMark {
			t.Error(bad, ok, e)
		}
		if ok, e := clocks.Agree(example(), mark(0, 0, 1), bad); ok || e != api.ErrMark {
			t.Error(bad, ok, e)
		}
	}
}

func TestContradictionAndPairs(t *testing.T) {
	for i, c := range []struct {
		d    api.Drum
		m    []api.Mark
		want [][]int
	}{
		{example(), clashing(), [][]int{{0, 2}, {1, 2}}},
		{example(), []api.Mark{mark(0, 10, 10), mark(0, 11, 11), mark(3, 4, 4), mark(1, 1, 1), mark(2, 15, 400)}, [][]int{{2}, {3}, {0, 1}}},
		{example(), []api.Mark{mark(3, 4, 4)}, [][]int{{0}}},
		{slow(), nil, [][]int{{}}},
		{slow(), []api.Mark{mark(0, 400, 400), mark(0, 0, 0)}, [][]int{{}}},
	} {
		if l, e := clocks.Pairs(c.d, c.m); !sameSets(l, c.want) || e != api.OK {
			t.Error(i, l, e)
		}
		if set, e := clocks.Contradiction(c.d, c.m); !slices.Equal(set, c.want[0]) || e != api.OK {
			t.Error(i, set, e)
		}
	}
	for i, m := range [][]api.Mark{nil, marks(), slices.Repeat([]api.Mark{mark(1, 50, 60)}, api.MaxMarks)} {
		if l, e := clocks.Pairs(example(), m); len(l) != 0 || e != api.ErrNone {
			t.Error(i, l, e)
		}
		if set, e := clocks.Contradiction(example(), m); len(set) != 0 || e != api.ErrNone {
			t.Error(i, set, e)
		}
	}
}

func TestDrops(t *testing.T) {
	twelve := slices.Repeat([]api.Mark{mark(0, 10, 12)}, api.MaxSmall)
	split := slices.Clone(twelve)
	for i := range split {
		split[i] = mark(0, i%2, i%2)
	}
	for i, c := range []struct {
		d    api.Drum
		m    []api.Mark
		want [][]int
	}{
		{example(), clashing(), [][]int{{2}}},
		{example(), marks(), [][]int{{}}},
		{example(), nil, [][]int{{}}},
		{example(), twelve, [][]int{{}}},
		{example(), []api.Mark{mark(0, 1, 1), mark(0, 2, 2), mark(0, 3, 3)}, [][]int{{0, 1}, {0, 2}, {1, 2}}},
		{example(), split, [][]int{{0, 2, 4, 6, 8, 10}, {1, 3, 5, 7, 9, 11}}},
		{example(), slices.Repeat([]api.Mark{mark(3, 0, 4)}, 12), [][]int{{0, 1, 2, 3, 4, 5, 6, 7, 8, 9, 10, 11}}},
	} {
		if l, e := clocks.Drops(c.d, c.m); !sameSets(l, c.want) || e != api.OK {
			t.Error(i, l, e)
		}
	}
	for i, c := range []struct {
		d    api.Drum
		m    []api.Mark
		want api.Errno
	}{
		{slow(), nil, api.ErrTime}, {slow(), twelve, api.ErrTime},
		{slow(), append(twelve, mark(0, 0, 1)), api.ErrLimit}, {example(), append(twelve, mark(0, 10, 11)), api.ErrLimit},
		{example(), append(twelve, mark(4, 0, 1)), api.ErrMark},
	} {
		if l, e := clocks.Drops(c.d, c.m); len(l) != 0 || e != c.want {
			t.Error(i, l, e)
		}
	}
}

// TestContradictionsExactly compares all that is told of contradictions with what all readings say (P2.3, P2.7, P2.8).
func TestContradictionsExactly(t *testing.T) {
	contradicting, singles, twos := 0, 0, 0
	for _, p := range problems(1, 400, 6) {
		want := minimal(p)
		l, e := clocks.Pairs(p.d, p.m)
		set, f := clocks.Contradiction(p.d, p.m)
		ok, g := clocks.Feasible(p.d, p.m)
		if g != api.OK || ok != (len(p.all) > 0) || ok != (len(want) == 0) {
			t.Fatal(p.d, p.m, ok, g)
		}
		if ok {
			if e != api.ErrNone || f != api.ErrNone {
				t.Fatal(p.d, p.m, e, f)
			}
			continue
		}
		contradicting++
		if e != api.OK || f != api.OK || !sameSets(l, want) || !slices.Equal(set, want[0]) {
			t.Fatal(p.d, p.m, l, set, want)
		}
		for _, set := range l {
			if len(set) > 2 || len(p.free) == 0 && len(set) > 0 {
				t.Fatal(p.d, p.m, l)
			}
			if len(set) == 1 {
				singles++
			}
			if len(set) == 2 {
				twos++
			}
		}
	}
	enough(t, contradicting, 100)
	enough(t, singles, 50)
	enough(t, twos, 50)
}

// minimal returns the minimal contradictions of a problem, by going through all readings.
func minimal(p problem) [][]int {
	var l [][]int
	for _, set := range subsets(len(p.m)) {
		has := func(less []int) bool { return isSubset(less, set) }
		if len(keeping(p.free, pick(p.m, set)...)) == 0 && !slices.ContainsFunc(l, has) {
			l = append(l, set)
		}
	}
	return l
}

// TestContradictingSets is P2.3 and P2.7: Pairs and Agree tell for each set of marks whether it contradicts.
func TestContradictingSets(t *testing.T) {
	seen := 0
	for _, p := range problems(2, 150, 5) {
		pairs, e := clocks.Pairs(p.d, p.m)
		if e != api.OK && e != api.ErrNone {
			t.Fatal(e)
		}
		for _, set := range subsets(len(p.m)) {
			chosen := pick(p.m, set)
			ok := must(clocks.Feasible(p.d, chosen))
			if ok == slices.ContainsFunc(pairs, func(pair []int) bool { return isSubset(pair, set) }) {
				t.Fatal(p.d, p.m, set, ok, pairs)
			}
			if len(p.free) == 0 {
				continue
			}
			together := true
			for i, a := range chosen {
				for _, b := range chosen[i:] {
					together = together && must(clocks.Agree(p.d, a, b))
				}
			}
			if ok != together {
				t.Fatal(p.d, p.m, set, ok, together)
			}
			seen++
		}
		for _, pair := range pairs {
			for i := range pair {
				if !must(clocks.Feasible(p.d, pick(p.m, slices.Delete(slices.Clone(pair), i, i+1)))) {
					t.Fatal(p.d, p.m, pair)
				}
			}
		}
	}
	enough(t, seen, 500)
}

// TestDropsExactly is P2.8.
func TestDropsExactly(t *testing.T) {
	seen := 0
	for _, p := range problems(3, 300, 7) {
		drops, e := clocks.Drops(p.d, p.m)
		if len(p.free) == 0 {
			if len(drops) != 0 || e != api.ErrTime {
				t.Fatal(p.d, p.m, drops, e)
			}
			continue
		}
		var want [][]int
		for _, set := range subsets(len(p.m)) {
			if len(want) > 0 && len(set) > len(want[0]) {
				break
			}
			if len(keeping(p.free, without(p.m, set)...)) > 0 {
				want = append(want, set)
			}
		}
		if e != api.OK || !sameSets(drops, want) {
			t.Fatal(p.d, p.m, drops, want, e)
		}
		pairs, _ := clocks.Pairs(p.d, p.m)
		for _, drop := range drops {
			if !must(clocks.Feasible(p.d, without(p.m, drop))) {
				t.Fatal(p.d, p.m, drop)
			}
			for _, pair := range pairs {
				if !slices.ContainsFunc(pair, func(n int) bool { return slices.Contains(drop, n) }) {
					t.Fatal(p.d, p.m, drop, pair)
				}
			}
		}
		if len(drops[0]) > 1 {
			seen++
		}
	}
	enough(t, seen, 50)
}
