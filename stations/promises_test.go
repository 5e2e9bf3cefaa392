package stations_test

import (
	"reflect"
	"slices"
	"testing"

	"aneroid/api"
	"aneroid/stations"
)

// TestSeaIncreases is P5.2.
func TestSeaIncreases(t *testing.T) {
	for _, h := range []int{0, 1, 37, 400, 1333, 2001, 3999, 4000} {
		before, none := -1, 0
		for level := range api.MaxLevel + 1 {
			n := must(stations.Sea(level, h))
			if n <= before || h > 0 && n < must(stations.Sea(level, h-1)) {
				t.Fatal(level, h, n)
			}
			if s := must(stations.Lands(n, h)); s != span(level, level) {
				t.Fatal(level, h, s)
			}
			// Levels of the sea that are left out are those of no level.
			for before++; before < n; before++ {
				none++
				zero, e := zero(stations.Lands(before, h))
				expectError(t, zero, e, api.ErrNone)
			}
		}
		for n := before + 1; n <= 18000; n++ {
			zero, e := zero(stations.Lands(n, h))
			expectError(t, zero, e, api.ErrNone)
		}
		if want := api.MaxLevel * h / 8000; none != want {
			t.Error(h, none)
		}
	}
}

// TestSeasLieWithin is the rest of P5.2.
func TestSeasLieWithin(t *testing.T) {
	x := newDice(2)
	for range 5000 {
		lo := x.from(0, api.MaxHeight)
		wide := span(lo, x.from(lo, api.MaxHeight))
		narrow := span(x.from(wide.Lo, wide.Hi), wide.Hi)
		narrow.Hi = x.from(narrow.Lo, wide.Hi)
		level := x.from(0, api.MaxLevel-1)
		a, b, above := must(stations.Seas(level, wide)), must(stations.Seas(level, narrow)), must(stations.Seas(level+x.from(1, api.MaxLevel-level), wide))
		if b.Lo < a.Lo || b.Hi > a.Hi || above.Lo <= a.Lo || above.Hi <= a.Hi || a != seasOf(level, wide) {
			t.Fatal(level, wide, narrow, a, b, above)
		}
	}
}

// TestTightIsExact is P5.3.
func TestTightIsExact(t *testing.T) {
	x := newDice(3)
	byWay, kept := 0, 0
	for range 200 {
		w, l := x.wind(), x.stations(x.from(1, 9), 3)
		rows := must(stations.Tight(w, l))
		for a := range l {
			// The tight bounds of a station are sea levels themselves.
			if !keepWind(w, l, rows[a]) || rows[a][a] != 0 {
				t.Fatal(w, l, rows)
			}
			for b := range l {
				bound := must(stations.Within(w, l[a], l[b]))
				if rows[a][b] != rows[b][a] || rows[a][b] > bound || bound != boundOf(w, l[a], l[b]) {
					t.Fatal(w, l, rows, bound)
				}
				byWay += min(1, bound-rows[a][b])
				for via := range l {
					if rows[a][b] > rows[a][via]+rows[via][b] {
						t.Fatal(w, l, rows, via)
					}
				}
			}
		}
		for range 50 {
			kept += min(1, checkTight(t, w, l, rows, x))
		}
	}
	enough(t, byWay, 300)
	enough(t, kept, 300)
}

// checkTight checks that sea levels keep the wind only within tight bounds; it returns by how much such ones differ at most.
func checkTight(t *testing.T, w api.Wind, l []api.Station, rows [][]int, x dice) int {
	t.Helper()
	seas, most := make([]int, len(l)), 0
	for i := range seas {
		seas[i] = x.from(0, 3)
	}
	if !keepWind(w, l, seas) {
		return 0
	}
	for a := range l {
		for b := range l {
			most = max(most, seas[a]-seas[b])
			if seas[a]-seas[b] > rows[a][b] {
				t.Fatal(w, l, seas, rows)
			}
		}
	}
	return most
}

// TestWays is P5.4, and which of the ways is told: they are compared with all ways.
func TestWays(t *testing.T) {
	x := newDice(4)
	long, chosen := 0, 0
	for range 700 {
		w, l := x.wind(), x.stations(x.from(1, 5), 1)
		rows := must(stations.Tight(w, l))
		for a := range l {
			for b := range l {
				var best []int
				waysOf(l, a, b, func(way []int) {
					order := slices.Compare(rank(w, l, way), rank(w, l, best))
					if best == nil || order < 0 {
						best = slices.Clone(way)
					}
					chosen += b2i(lengthOf(w, l, way) == rows[a][b])
				})
				way := must(stations.Way(w, l, a, b))
				if !slices.Equal(way, best) || lengthOf(w, l, way) != rows[a][b] {
					t.Fatal(w, l, way, best, rows)
				}
				chosen--
				long += b2i(len(way) > 3)
			}
		}
	}
	enough(t, long, 50)
	enough(t, chosen, 1000)
}

// rank returns what ways are compared by: their length, their size, and then what they are.
func rank(w api.Wind, l []api.Station, way []int) []int {
	return append([]int{lengthOf(w, l, way), len(way)}, way...)
}

func b2i(b bool) int {
	if b {
		return 1
	}
	return 0
}

// TestPartsOfWays is the rest of P5.4, with more stations.
func TestPartsOfWays(t *testing.T) {
	x := newDice(5)
	parts := 0
	for range 40 {
		w, l := x.wind(), x.stations(x.from(10, api.MaxStations), 1)
		rows := must(stations.Tight(w, l))
		for range 20 {
			a, b := x.IntN(len(l)), x.IntN(len(l))
			way := must(stations.Way(w, l, a, b))
			if way[0] != a || way[len(way)-1] != b {
				t.Fatal(w, l, way)
			}
			for i := range way {
				for k := i; k < len(way); k++ {
					parts++
					if lengthOf(w, l, way[i:k+1]) != rows[way[i]][way[k]] {
						t.Fatal(w, l, way, i, k)
					}
				}
			}
		}
	}
	enough(t, parts, 3000)
}

// TestAgainstAllSeas compares Keeps and Seaside with all sea levels of small situations; it is P5.6 as well.
func TestAgainstAllSeas(t *testing.T) {
	x := newDice(6)
	with, without := 0, 0
	for range 1500 {
		s := x.situation(x.from(1, 4), 2)
		all := allSeas(s)
		ok := must(stations.Keeps(s.wind, s.l, s.week, s.levels))
		seaside, e := stations.Seaside(s.wind, s.l, s.week, s.levels)
		if ok != (len(all) > 0) || ok != (e == api.OK) {
			t.Fatal(s, ok, e, len(all))
		}
		if !ok {
			without++
			expectError(t, len(seaside) == 0, e, api.ErrNone)
			continue
		}
		with++
		if !slices.Equal(seaside, combine(least, all...)) || !areSeas(s, seaside) {
			t.Fatal(s, seaside)
		}
		for range 10 {
			a, b, c := all[x.IntN(len(all))], all[x.IntN(len(all))], all[x.IntN(len(all))]
			if !areSeas(s, combine(least, a, b)) || !areSeas(s, combine(greatest, a, b)) || !areSeas(s, combine(middle, a, b, c)) {
				t.Fatal(s, a, b, c)
			}
		}
	}
	enough(t, with, 300)
	enough(t, without, 300)
}

// TestTwoByTwo is P5.5; Apart is compared with all pairs of sea levels.
func TestTwoByTwo(t *testing.T) {
	x := newDice(7)
	together, apart := 0, 0
	for range 1500 {
		s := x.situation(x.from(1, 8), 4)
		first := firstApart(s, must(stations.Tight(s.wind, s.l)))
		pair, e := stations.Apart(s.wind, s.l, s.week, s.levels)
		if ok := must(stations.Keeps(s.wind, s.l, s.week, s.levels)); ok != (e == api.ErrNone) || ok != (first == nil) {
			t.Fatal(s, ok, pair, e, first)
		}
		if first == nil {
			together++
			expectError(t, len(pair) == 0, e, api.ErrNone)
			continue
		}
		apart++
		expectList(t, pair, e, first...)
	}
	enough(t, together, 200)
	enough(t, apart, 200)
}

func firstApart(s situation, tight [][]int) []int {
	for i := range s.l {
		for k := i + 1; k < len(s.l); k++ {
			a, b := seasOf(s.levels[i], heightsOf(s.l[i], s.week)), seasOf(s.levels[k], heightsOf(s.l[k], s.week))
			near := false
			for m := a.Lo; m <= a.Hi; m++ {
				for n := b.Lo; n <= b.Hi; n++ {
					near = near || max(m-n, n-m) <= tight[i][k]
				}
			}
			if !near {
				return []int{i, k}
			}
		}
	}
	return nil
}

// TestLevelsAreOne is P5.7.
func TestLevelsAreOne(t *testing.T) {
	x := newDice(8)
	different := 0
	for range 300 {
		s := x.situation(x.from(2, 6), 4)
		var lists [][]int
		for range 60 {
			if levels := x.levels(s); must(stations.Keeps(s.wind, s.l, s.week, levels)) {
				lists = append(lists, levels)
			}
		}
		for range min(30, 10*len(lists)) {
			a, b, c := lists[x.IntN(len(lists))], lists[x.IntN(len(lists))], lists[x.IntN(len(lists))]
			for _, levels := range [][]int{combine(least, a, b), combine(greatest, a, b), combine(middle, a, b, c)} {
				different += b2i(!slices.Equal(levels, a) && !slices.Equal(levels, b) && !slices.Equal(levels, c))
				if !must(stations.Keeps(s.wind, s.l, s.week, levels)) {
					t.Fatal(s, a, b, c, levels)
				}
			}
		}
	}
	enough(t, different, 1000)
}

// TestMoreWind is P5.8: levels that can be at one time still can; of those that cannot, some can then.
func TestMoreWind(t *testing.T) {
	x := newDice(9)
	kept, freed := 0, 0
	for range 1500 {
		s := x.situation(x.from(2, 6), 2)
		before := must(stations.Keeps(s.wind, s.l, s.week, s.levels))
		more := x.looser(s)
		after := must(stations.Keeps(more.wind, more.l, more.week, more.levels))
		if before && !after {
			t.Fatal(s, more)
		}
		kept += b2i(before)
		freed += b2i(after && !before)
	}
	enough(t, kept, 200)
	enough(t, freed, 100)
}

// looser returns a situation with more wind, or wider heights, or a station less.
func (d dice) looser(s situation) situation {
	at := d.IntN(len(s.l))
	switch d.IntN(4) {
	case 0:
		s.wind.Fixed += d.from(1, 3)
	case 1:
		s.wind.Each += d.from(1, 30)
	case 2:
		x := s.l[at]
		x.Heights = slices.Clone(x.Heights)
		for i, h := range x.Heights {
			x.Heights[i].Metres = span(max(0, h.Metres.Lo-d.from(0, 4)), h.Metres.Hi+d.from(0, 4))
		}
		s.l = slices.Clone(s.l)
		s.l[at] = x
	case 3:
		s.l, s.levels = without(s.l, at), without(s.levels, at)
	}
	return s
}

// TestMoved is P5.9.
func TestMoved(t *testing.T) {
	x := newDice(10)
	moves := 0
	for range 300 {
		s := station(1, 0, 0, x.heights(5)...)
		h, g := height(x.from(1, 25), 7, 9), height(x.from(1, 25), 8, 8)
		next := api.MaxWeek + 1
		for _, old := range slices.Backward(s.Heights) {
			if old.Week > h.Week {
				next = old.Week
			}
		}
		moved, e := stations.Move(s, h)
		if e != api.OK {
			expectError(t, slices.ContainsFunc(s.Heights, func(old api.Height) bool { return old.Week == h.Week }), e, api.ErrHeight)
			continue
		}
		moves++
		for week := range 40 {
			want := must(stations.Height(s, week))
			if h.Week <= week && week < next {
				want = h.Metres
			}
			if at := must(stations.Height(moved, week)); at != want || at != heightsOf(moved, week) {
				t.Fatal(s, h, week, at)
			}
		}
		if h.Week != g.Week {
			checkOrder(t, s, h, g)
		}
	}
	enough(t, moves, 150)
}

// checkOrder checks that two moves of different weeks make the same station in either order.
func checkOrder(t *testing.T, s api.Station, h, g api.Height) {
	t.Helper()
	a, e := stations.Move(s, h)
	b, f := stations.Move(s, g)
	if e != api.OK || f != api.OK {
		return
	}
	if x, y := must(stations.Move(a, g)), must(stations.Move(b, h)); !reflect.DeepEqual(x, y) {
		t.Fatal(s, h, g, x, y)
	}
}

// TestStepsAreMoves checks that heights change in the weeks of Steps, and in no others.
func TestStepsAreMoves(t *testing.T) {
	x := newDice(11)
	seen := 0
	for range 300 {
		s := station(1, 0, 0, x.heights(1)...)
		var want []int
		for week := 1; week < 30; week++ {
			if must(stations.Height(s, week)) != must(stations.Height(s, week-1)) {
				want = append(want, week)
			}
		}
		weeks, e := stations.Steps(s)
		expectList(t, weeks, e, want...)
		seen += len(weeks)
	}
	enough(t, seen, 100)
}
