package stations_test

import (
	"math"
	"reflect"
	"slices"
	"testing"

	"aneroid/api"
	"aneroid/stations"
)

func TestCheck(t *testing.T) {
	least := station(1, 0, 0, height(0, 0, 0))
	for i, l := range [][]api.Station{nil, {}, example(), largest(), {least}} {
		if e, at := stations.Check(l); e != api.OK || at != 0 {
			t.Error(i, e, at)
		}
	}
	for i, s := range badPlaces() {
		for at := range 3 {
			l := example()
			l[at] = s
			if e, k := stations.Check(l); e != api.ErrStation || k != at {
				t.Error(i, at, e, k)
			}
		}
	}
	for i, s := range badHeights() {
		l := example()
		l[1] = s
		if e, at := stations.Check(append(l, badPlaces()...)); e != api.ErrHeight || at != 1 {
			t.Error(i, e, at)
		}
	}
}

func TestCheckOfLists(t *testing.T) {
	for _, id := range []int{1, 2} {
		l := example()
		l[2].ID = id
		l[2].Heights = nil
		if e, at := stations.Check(l); e != api.ErrStation || at != 2 {
			t.Error(id, e, at)
		}
	}
	long := append(largest(), station(0, 0, 0))
	long[0].ID = 0
	if e, at := stations.Check(long); e != api.ErrLimit || at != 0 {
		t.Error(e, at)
	}
	if e, at := stations.Check(long[1:]); e != api.ErrStation || at != api.MaxStations-1 {
		t.Error(e, at)
	}
}

func TestStationOf(t *testing.T) {
	for i, s := range largest() {
		if at, e := stations.StationOf(largest(), s.ID); at != i || e != api.OK {
			t.Error(i, at, e)
		}
	}
	gaps := example()
	gaps[1].ID, gaps[2].ID = 5, 9
	for i, id := range []int{1, 5, 9} {
		if at, e := stations.StationOf(gaps, id); at != i || e != api.OK {
			t.Error(i, at, e)
		}
	}
	for _, id := range []int{-1, 0, 2, 4, 6, 8, 10, api.MaxID + 1, math.MinInt, math.MaxInt} {
		zero, e := zero(stations.StationOf(gaps, id))
		expectError(t, zero, e, api.ErrStation)
	}
	zero, e := zero(stations.StationOf(nil, 1))
	expectError(t, zero, e, api.ErrStation)
}

func TestHeight(t *testing.T) {
	s := station(1, 0, 0, height(0, 1, 2), height(7, 0, 4000), height(10000, 3, 3))
	for week, want := range map[int]api.Span{0: span(1, 2), 6: span(1, 2), 7: span(0, 4000), 8: span(0, 4000), 9999: span(0, 4000), 10000: span(3, 3)} {
		if at, e := stations.Height(s, week); at != want || e != api.OK {
			t.Error(week, at, e)
		}
	}
	for week, want := range map[int]api.Span{49: span(0, 0), 50: span(80, 160)} {
		if at, e := stations.Height(example()[1], week); at != want || e != api.OK {
			t.Error(week, at, e)
		}
	}
}

func TestMove(t *testing.T) {
	s := station(4, 5, 6, height(0, 1, 1), height(8, 2, 3))
	for _, h := range []api.Height{height(1, 0, 0), height(7, 1, 1), height(9, 2, 3), height(10000, 0, 4000)} {
		moved, e := stations.Move(s, h)
		want := slices.Clone(s.Heights)
		if h.Week < 8 {
			want = slices.Insert(want, 1, h)
		} else {
			want = append(want, h)
		}
		if e != api.OK || !reflect.DeepEqual(moved, station(4, 5, 6, want...)) {
			t.Error(h, moved, e)
		}
	}
	for _, h := range []api.Height{
		height(0, 1, 1), height(0, 5, 5), height(8, 2, 3), height(8, 0, 0),
		height(-1, 1, 1), height(10001, 1, 1), height(math.MinInt, 1, 1), height(math.MaxInt, 1, 1),
		height(3, -1, 1), height(3, 2, 1), height(3, 0, 4001), height(3, math.MinInt, math.MaxInt), height(3, math.MaxInt, math.MinInt),
	} {
		moved, e := stations.Move(s, h)
		expectError(t, reflect.DeepEqual(moved, api.Station{}), e, api.ErrHeight)
	}
	full, e := stations.Move(largest()[0], height(1, 0, 0))
	expectError(t, reflect.DeepEqual(full, api.Station{}), e, api.ErrHeight)
}

func TestMoveToTheLimit(t *testing.T) {
	s := largest()[0]
	s.Heights = s.Heights[:api.MaxMoves-1]
	moved, e := stations.Move(s, height(1, 2, 3))
	if e != api.OK || len(moved.Heights) != api.MaxMoves || moved.Heights[1] != height(1, 2, 3) {
		t.Error(moved, e)
	}
	if s.Heights[1] != largest()[0].Heights[1] || s.Heights[:api.MaxMoves][api.MaxMoves-1] != largest()[0].Heights[api.MaxMoves-1] {
		t.Error("the argument is changed", s)
	}
	moved.Heights[0].Metres.Lo = 7
	if s.Heights[0] != largest()[0].Heights[0] {
		t.Error("the result shares memory with the argument")
	}
	behind, e := stations.Move(s, height(api.MaxWeek, 2, 3))
	if e != api.OK || s.Heights[:api.MaxMoves][api.MaxMoves-1] != largest()[0].Heights[api.MaxMoves-1] {
		t.Error("the argument's room is used", behind, e)
	}
}

func TestSteps(t *testing.T) {
	for _, c := range []struct {
		heights []api.Height
		weeks   []int
	}{
		{[]api.Height{height(0, 0, 0)}, nil},
		{[]api.Height{height(0, 5, 6), height(3, 5, 6)}, nil},
		{[]api.Height{height(0, 5, 6), height(3, 5, 6), height(4, 5, 7), height(9, 4, 7), height(10, 4, 7), height(11, 5, 6)}, []int{4, 9, 11}},
		{[]api.Height{height(0, 1, 1), height(3, 0, 0), height(4, 1, 1)}, []int{3, 4}},
	} {
		weeks, e := stations.Steps(station(1, 0, 0, c.heights...))
		expectList(t, weeks, e, c.weeks...)
	}
}

func TestSea(t *testing.T) {
	for _, c := range []struct{ level, height, sea int }{
		{8000, 100, 8100}, {10000, 100, 10125}, {10001, 100, 10126}, {9642, 400, 10124}, {9640, 400, 10122},
		{0, 4000, 0}, {1, 4000, 1}, {2, 4000, 3}, {12000, 0, 12000}, {12000, 4000, 18000}, {7999, 1, 7999}, {8000, 1, 8001},
	} {
		if n, e := stations.Sea(c.level, c.height); n != c.sea || e != api.OK {
			t.Error(c, n, e)
		}
		if s, e := stations.Lands(c.sea, c.height); s != span(c.level, c.level) || e != api.OK {
			t.Error(c, s, e)
		}
		if s, e := stations.Seas(c.level, span(c.height, c.height)); s != span(c.sea, c.sea) || e != api.OK {
			t.Error(c, s, e)
		}
	}
	for _, c := range []struct {
		level         int
		heights, seas api.Span
	}{
		{10000, span(80, 160), span(10100, 10200)}, {12000, span(0, 4000), span(12000, 18000)}, {7999, span(0, 1), span(7999, 7999)}, {0, span(0, 4000), span(0, 0)},
	} {
		if s, e := stations.Seas(c.level, c.heights); s != c.seas || e != api.OK {
			t.Error(c, s, e)
		}
	}
}

func TestLandsOfNone(t *testing.T) {
	for _, c := range []struct{ sea, height int }{{2, 4000}, {5, 4000}, {20, 400}, {12001, 0}, {18000, 3999}, {18000, 0}} {
		zero, e := zero(stations.Lands(c.sea, c.height))
		expectError(t, zero, e, api.ErrNone)
	}
}

func TestErrorsOfTheSea(t *testing.T) {
	bad := []int{-1, api.MaxHeight + 1, math.MinInt, math.MaxInt}
	for _, n := range noLevels() {
		zeroSea, e := zero(stations.Sea(n, 100))
		expectError(t, zeroSea, e, api.ErrArg)
		zeroSeas, e := zero(stations.Seas(n, span(100, 200)))
		expectError(t, zeroSeas, e, api.ErrArg)
	}
	for _, n := range []int{-1, 18001, math.MinInt, math.MaxInt} {
		zero, e := zero(stations.Lands(n, 100))
		expectError(t, zero, e, api.ErrArg)
	}
	for _, h := range bad {
		zeroSea, e := zero(stations.Sea(10000, h))
		expectError(t, zeroSea, e, api.ErrArg)
		zeroLands, e := zero(stations.Lands(2, h))
		expectError(t, zeroLands, e, api.ErrArg)
		zeroLo, e := zero(stations.Seas(10000, span(h, 100)))
		expectError(t, zeroLo, e, api.ErrArg)
		zeroHi, e := zero(stations.Seas(10000, span(100, h)))
		expectError(t, zeroHi, e, api.ErrArg)
	}
	zero, e := zero(stations.Seas(10000, span(101, 100)))
	expectError(t, zero, e, api.ErrArg)
}

func TestDistance(t *testing.T) {
	for _, c := range []struct{ x, y, want int }{
		{0, 0, 0}, {3, 4, 5}, {6, 8, 10}, {1, 0, 1}, {0, 2000, 2000}, {1, 1, 2}, {2, 2, 3}, {5, 7, 9}, {2000, 2000, 2829}, {1999, 1, 2000}, {2000, 1, 2001}, {1200, 1600, 2000},
	} {
		a, b := station(1, 0, c.y, height(0, 0, 0)), station(2, c.x, 0, height(0, 9, 9))
		there, e := stations.Distance(a, b)
		back, f := stations.Distance(b, a)
		if there != c.want || back != c.want || e != api.OK || f != api.OK {
			t.Error(c, there, back, e, f)
		}
	}
	x := newDice(1)
	for range 500 {
		a, b := station(1, x.from(0, 2000), x.from(0, 2000), height(0, 0, 0)), station(1, x.from(0, 2000), x.from(0, 2000), height(0, 0, 0))
		if d := must(stations.Distance(a, b)); d != distanceOf(a, b) {
			t.Error(a, b, d)
		}
	}
}

func TestCheckWind(t *testing.T) {
	for _, w := range []api.Wind{{}, exampleWind(), {Fixed: api.MaxLevel, Each: 10000}} {
		if e := stations.CheckWind(w); e != api.OK {
			t.Error(w, e)
		}
	}
	for _, w := range badWinds() {
		if e := stations.CheckWind(w); e != api.ErrArg {
			t.Error(w, e)
		}
	}
}

func TestWithin(t *testing.T) {
	l := example()
	far := station(9, 2000, 2000, height(0, 0, 0))
	same := far
	same.ID = 1
	for _, c := range []struct {
		w    api.Wind
		a, b api.Station
		want int
	}{
		{exampleWind(), l[0], l[1], 1}, {exampleWind(), l[0], l[2], 3}, {exampleWind(), l[2], l[0], 3}, {exampleWind(), l[0], l[0], 0},
		{api.Wind{Fixed: 7, Each: 19}, l[0], l[1], 7}, {api.Wind{Fixed: 7, Each: 20}, l[0], l[1], 8},
		{api.Wind{Fixed: 12000, Each: 10000}, l[0], far, 294900}, {api.Wind{Fixed: 12000, Each: 10000}, l[0], same, 0},
	} {
		if n, e := stations.Within(c.w, c.a, c.b); n != c.want || e != api.OK {
			t.Error(c, n, e)
		}
	}
}

func TestSpeed(t *testing.T) {
	l := example()
	for _, c := range []struct {
		a, b  int
		ticks int
		want  api.Ratio
	}{
		{0, 2, 4, api.Ratio{Num: 5, Den: 2}}, {2, 0, 4, api.Ratio{Num: 5, Den: 2}}, {0, 2, 1, api.Ratio{Num: 10, Den: 1}}, {0, 2, 3, api.Ratio{Num: 10, Den: 3}},
		{0, 1, 400, api.Ratio{Num: 1, Den: 80}}, {0, 0, 400, api.Ratio{Num: 0, Den: 1}}, {0, 2, 10, api.Ratio{Num: 1, Den: 1}},
	} {
		if r, e := stations.Speed(l[c.a], l[c.b], c.ticks); r != c.want || e != api.OK {
			t.Error(c, r, e)
		}
	}
	for _, ticks := range []int{0, -1, 401, math.MinInt, math.MaxInt} {
		zero, e := zero(stations.Speed(l[0], l[2], ticks))
		expectError(t, zero, e, api.ErrArg)
	}
}
