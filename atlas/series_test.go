package atlas_test

import (
	"math/big"
	"slices"
	"testing"

	"aneroid/api"
	"aneroid/atlas"
	"aneroid/century"
)

// told is an atlas that tells a level, and nothing else, of the station 1 in a week.
func told(week, lo, hi int) api.Atlas {
	w := api.Week{Week: week, Base: api.Base{Stations: []api.Station{station(1, 0, 0, 0, 0)}}, Sheets: []api.Filed{{Station: 1}}}
	return api.Atlas{Week: w, Shown: []api.Shown{{Levels: [][]api.Span{set(lo, hi)}}}}
}

func value(time, lo, hi int) api.Value { return api.Value{Time: time, Levels: span(lo, hi)} }

func TestValues(t *testing.T) {
	silent := told(6, 1, 2)
	silent.Trouble = api.ErrClash
	l := []api.Atlas{told(0, 100, 102), told(3, 90, 95), silent, told(7, 4, 3), told(10000, 0, 12000), told(10001, 5, 6)}
	v, e := atlas.Values(l, 1)
	expect(t, v, e, []api.Value{value(0, 100, 102), value(3, 90, 95), value(7, 4, 3), value(10000, 0, 12000)})
	v, e = atlas.Values(l, 2)
	expect(t, v, e, nil)
	v, e = atlas.Values(nil, 1)
	expect(t, v, e, nil)
	v, e = atlas.Values([]api.Atlas{plain()}, 2)
	expect(t, v, e, []api.Value{value(0, 10001, 10005)})
	v, e = atlas.Values([]api.Atlas{told(-7, 1, 1), told(4, 1, 1)}, 1)
	expect(t, v, e, []api.Value{value(4, 1, 1)})
	// The weeks of all atlases must increase, also of those that tell nothing of the station.
	for _, l := range [][]api.Atlas{
		{told(3, 1, 2), told(3, 1, 2)},
		{told(3, 1, 2), told(2, 1, 2)},
		{told(3, 1, 2), told(5, 1, 2), silent, told(6, 1, 2)},
		{silent, silent},
		{told(-1, 1, 1), told(-1, 1, 1)},
	} {
		for station := range 3 {
			v, e = atlas.Values(l, station)
			expectError(t, v, e, api.ErrArg)
			low, high, e := atlas.Trend(l, station)
			expectError(t, [2]api.Ratio{low, high}, e, api.ErrArg)
		}
	}
}

func TestTrend(t *testing.T) {
	l := []api.Atlas{told(0, 100, 102), told(1, 101, 101), told(3, 90, 95)}
	low, high, e := atlas.Trend(l, 1)
	s := api.Series{Values: []api.Value{value(0, 100, 102), value(1, 101, 101), value(3, 90, 95)}}
	first, last, _ := century.Slope(s)
	expect(t, []api.Ratio{low, high}, e, []api.Ratio{first, last})
	expectError := func(l []api.Atlas, station int, want api.Errno) {
		t.Helper()
		low, high, e := atlas.Trend(l, station)
		expectError(t, [2]api.Ratio{low, high}, e, want)
	}
	expectError(l[:1], 1, api.ErrNone)
	expectError(l, 2, api.ErrNone)
	expectError(nil, 1, api.ErrNone)
	expectError([]api.Atlas{told(0, 1, 1), told(1, 4, 3)}, 1, api.ErrSeries)
	var many []api.Atlas
	for week := range api.MaxYears + 1 {
		many = append(many, told(week, week, week))
	}
	expectError(many, 1, api.ErrLimit)
	low, high, e = atlas.Trend(many[:api.MaxYears], 1)
	expect(t, []api.Ratio{low, high}, e, []api.Ratio{{Num: 1, Den: 1}, {Num: 1, Den: 1}})
}

func fraction(r api.Ratio) *big.Rat { return big.NewRat(int64(r.Num), int64(r.Den)) }

// slope returns the slope of least squares.
func slope(times, levels []int) *big.Rat {
	n, t, y, tt, ty := len(times), 0, 0, 0, 0
	for i := range times {
		t, y, tt, ty = t+times[i], y+levels[i], tt+times[i]*times[i], ty+times[i]*levels[i]
	}
	return big.NewRat(int64(n*ty-t*y), int64(n*tt-t*t))
}

// TestRealSlope is P10.7: the slope of what really was at the sea lies within the trend.
func TestRealSlope(t *testing.T) {
	x := newDice(4)
	for range 20 {
		var times, seas []int
		var atlases []api.Atlas
		for week := x.from(0, 3); len(times) < 4; week += x.from(1, 3) {
			tr := x.truth(week, usual)
			// All weeks have a first station, with the same ID.
			tr.base.Stations[0].ID = 1
			for i, n := range tr.notes {
				if n.Station > 0 && n.Station < 4 {
					tr.notes[i].Station = 1
				}
				if n.Read.Station > 0 && n.Read.Station < 4 {
					tr.notes[i].Read.Station = 1
				}
			}
			atlases = append(atlases, must(atlas.Build(tr.base, tr.register(), week, 1)))
			level := tr.courses[0].Levels[tr.base.Term]
			times, seas = append(times, week), append(seas, level+level*tr.heights[0]/8000)
		}
		for i, v := range must(atlas.Values(atlases, 1)) {
			if v.Time != times[i] || !has([]api.Span{v.Levels}, seas[i]) {
				t.Fatal(v, times, seas)
			}
		}
		low, high, e := atlas.Trend(atlases, 1)
		real := slope(times, seas)
		if e != api.OK || fraction(low).Cmp(real) > 0 || fraction(high).Cmp(real) < 0 {
			t.Fatal(low, real, high, e)
		}
		// A week that was not shown changes neither the order nor what the others tell.
		without := slices.Clone(atlases)
		without[2].Shown = nil
		if v := must(atlas.Values(without, 1)); !same(v, slices.Delete(must(atlas.Values(atlases, 1)), 2, 3)) {
			t.Fatal(v)
		}
	}
}
