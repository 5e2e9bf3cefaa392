package stations_test

import (
	"math"
	"reflect"
	"slices"
	"testing"

	"aneroid/api"
	"aneroid/stations"
)

func TestTightAndWay(t *testing.T) {
	rows, e := stations.Tight(exampleWind(), example())
	if want := [][]int{{0, 1, 2}, {1, 0, 1}, {2, 1, 0}}; e != api.OK || !reflect.DeepEqual(rows, want) {
		t.Error(rows, e)
	}
	for _, c := range []struct {
		w    api.Wind
		a, b int
		way  []int
	}{
		{exampleWind(), 0, 2, []int{0, 1, 2}}, {exampleWind(), 2, 0, []int{2, 1, 0}}, {exampleWind(), 0, 1, []int{0, 1}}, {exampleWind(), 1, 1, []int{1}},
		// Where all bounds are 0, or the way straight on is as short, it has the fewest elements.
		{api.Wind{}, 0, 2, []int{0, 2}}, {api.Wind{}, 2, 2, []int{2}}, {api.Wind{Each: 20}, 0, 2, []int{0, 2}}, {api.Wind{Fixed: 1, Each: 30}, 0, 2, []int{0, 2}},
	} {
		way, e := stations.Way(c.w, example(), c.a, c.b)
		expectList(t, way, e, c.way...)
	}
}

// TestFirstWay checks which one of several ways of the same length and size is the first one.
func TestFirstWay(t *testing.T) {
	var l []api.Station
	for i, at := range [][2]int{{9, 0}, {3, 1}, {6, 0}, {3, 0}, {0, 0}} {
		l = append(l, station(i+1, at[0], at[1], height(0, 0, 0)))
	}
	w := api.Wind{Each: 33}
	way, e := stations.Way(w, l, 4, 0)
	expectList(t, way, e, 4, 3, 2, 0)
	l[1].X, l[1].Y = 3, 0
	way, e = stations.Way(w, l, 4, 0)
	expectList(t, way, e, 4, 1, 2, 0)
	way, e = stations.Way(w, l, 0, 4)
	expectList(t, way, e, 0, 2, 1, 4)
}

func TestTightOfFew(t *testing.T) {
	none, e := stations.Tight(exampleWind(), nil)
	expectError(t, len(none) == 0, e, api.OK)
	one, e := stations.Tight(exampleWind(), example()[:1])
	if e != api.OK || !reflect.DeepEqual(one, [][]int{{0}}) {
		t.Error(one, e)
	}
	rows, e := stations.Tight(api.Wind{Fixed: api.MaxLevel, Each: 10000}, largest())
	if e != api.OK || len(rows) != api.MaxStations || rows[0][3] != 12000+282900 || rows[0][4] != 12000 {
		t.Error(rows, e)
	}
}

// TestLongWay has a way that leads through as many stations as there may be, with its bounds of 0.
func TestLongWay(t *testing.T) {
	var l []api.Station
	var all []int
	for i := range api.MaxStations {
		l = append(l, station(i+1, i, 0, height(0, 0, 0)))
		all = append(all, i)
	}
	w := api.Wind{Each: 99}
	way, e := stations.Way(w, l, 0, api.MaxStations-1)
	expectList(t, way, e, all...)
	rows := must(stations.Tight(w, l))
	if rows[0][api.MaxStations-1] != 0 {
		t.Error(rows)
	}
}

func TestKeeps(t *testing.T) {
	w, l := exampleWind(), example()
	for _, c := range []struct {
		week             int
		levels           []int
		seaside, isApart []int
	}{
		{0, []int{10000, 10124, 9642}, []int{10125, 10124, 10124}, nil},
		{50, []int{10000, 10000, 9642}, []int{10125, 10124, 10124}, nil},
		{49, []int{10000, 10000, 9642}, nil, []int{0, 1}},
		{0, []int{10000, 10126, 9640}, nil, []int{0, 2}},
		{0, []int{10000, 10124, 9640}, nil, []int{0, 2}},
		{0, []int{10000, 10123, 9641}, nil, []int{0, 1}},
		{0, []int{10000, 10125, 9640}, nil, []int{0, 2}},
		{0, []int{10000, 10126, 9643}, []int{10125, 10126, 10125}, nil},
		{0, []int{10000, 10126, 9645}, []int{10125, 10126, 10127}, nil},
		{0, []int{10000, 10124, 9644}, nil, []int{1, 2}},
		{0, []int{0, 0, 0}, []int{0, 0, 0}, nil},
	} {
		ok, e := stations.Keeps(w, l, c.week, c.levels)
		if e != api.OK || ok != (c.isApart == nil) {
			t.Error(c, ok, e)
		}
		seaside, e := stations.Seaside(w, l, c.week, c.levels)
		apart, f := stations.Apart(w, l, c.week, c.levels)
		if ok {
			expectList(t, seaside, e, c.seaside...)
			expectError(t, len(apart) == 0, f, api.ErrNone)
		} else {
			expectError(t, len(seaside) == 0, e, api.ErrNone)
			expectList(t, apart, f, c.isApart...)
		}
	}
}

func TestKeepsOfFew(t *testing.T) {
	ok, e := stations.Keeps(api.Wind{}, nil, 0, nil)
	expectError(t, ok, e, api.OK)
	seaside, e := stations.Seaside(api.Wind{}, nil, 0, nil)
	expectList(t, seaside, e)
	apart, e := stations.Apart(api.Wind{}, nil, 0, nil)
	expectError(t, len(apart) == 0, e, api.ErrNone)
	seaside, e = stations.Seaside(api.Wind{}, largest()[:1], api.MaxWeek, []int{api.MaxLevel})
	expectList(t, seaside, e, 12000+12000*15/8000)
}

// A call is a function of the chapter. Its result counts as zero if it has only zero values beside the error.
type call struct {
	name string
	do   func(w api.Wind, l []api.Station) (zero bool, e api.Errno)
}

// wrong are calls of all functions with a wind or a list of stations, each with a further argument that is not valid.
func wrong() []call {
	var calls []call
	add := func(name string, do func(w api.Wind, l []api.Station) (bool, api.Errno)) {
		calls = append(calls, call{name, do})
	}
	for _, n := range []int{-1, 3, math.MinInt, math.MaxInt} {
		add("Way from", func(w api.Wind, l []api.Station) (bool, api.Errno) { return zeroList(stations.Way(w, l, n, 0)) })
		add("Way to", func(w api.Wind, l []api.Station) (bool, api.Errno) { return zeroList(stations.Way(w, l, 0, n)) })
		add("Way of none", func(w api.Wind, l []api.Station) (bool, api.Errno) { return zeroList(stations.Way(w, l, n, n)) })
	}
	asked := func(name string, week int, levels []int) {
		add("Keeps "+name, func(w api.Wind, l []api.Station) (bool, api.Errno) {
			return zero(stations.Keeps(w, l, week, levels))
		})
		add("Seaside "+name, func(w api.Wind, l []api.Station) (bool, api.Errno) {
			return zeroList(stations.Seaside(w, l, week, levels))
		})
		add("Apart "+name, func(w api.Wind, l []api.Station) (bool, api.Errno) {
			return zeroList(stations.Apart(w, l, week, levels))
		})
	}
	for _, week := range noWeeks() {
		asked("week", week, []int{10000, 10124, 9642})
	}
	for _, levels := range noLists() {
		asked("levels", 0, levels)
	}
	return calls
}

// plain are calls in which only the stations or the wind can be wrong.
func plain() []call {
	levels := []int{10000, 10124, 9642}
	return []call{
		{"Tight", func(w api.Wind, l []api.Station) (bool, api.Errno) { return zeroList(stations.Tight(w, l)) }},
		{"Way", func(w api.Wind, l []api.Station) (bool, api.Errno) { return zeroList(stations.Way(w, l, 0, 2)) }},
		{"Keeps", func(w api.Wind, l []api.Station) (bool, api.Errno) { return zero(stations.Keeps(w, l, 0, levels)) }},
		{"Seaside", func(w api.Wind, l []api.Station) (bool, api.Errno) {
			return zeroList(stations.Seaside(w, l, 0, levels))
		}},
		{"Apart", func(w api.Wind, l []api.Station) (bool, api.Errno) { return zeroList(stations.Apart(w, l, 0, levels)) }},
	}
}

// TestErrorsOfLists checks that the error of Check comes ahead of ErrArg, and this ahead of ErrNone, with zero values.
func TestErrorsOfLists(t *testing.T) {
	for _, c := range append(wrong(), plain()...) {
		for at := range 3 {
			for _, bad := range badPlaces() {
				l := example()
				l[at] = bad
				zero, e := c.do(badWinds()[0], l)
				expectError(t, zero, e, api.ErrStation)
			}
			for _, bad := range badHeights() {
				l := example()
				l[at].Heights = bad.Heights
				zero, e := c.do(exampleWind(), l)
				expectError(t, zero, e, api.ErrHeight)
			}
		}
		zero, e := c.do(exampleWind(), append(largest(), example()...))
		expectError(t, zero, e, api.ErrLimit)
		for _, w := range badWinds() {
			zero, e := c.do(w, example())
			expectError(t, zero, e, api.ErrArg)
		}
	}
	for _, c := range wrong() {
		zero, e := c.do(exampleWind(), example())
		if e != api.ErrArg || !zero {
			t.Error(c.name, zero, e)
		}
	}
}

// TestErrorsOfOne checks the functions of one station: its error comes ahead of all others.
func TestErrorsOfOne(t *testing.T) {
	expect := func(s api.Station, want api.Errno) {
		t.Helper()
		for _, week := range append(noWeeks(), 0) {
			none, e := zero(stations.Height(s, week))
			expectError(t, none, e, want)
		}
		for _, week := range []int{0, 5, -1} {
			moved, e := stations.Move(s, height(week, 0, 0))
			expectError(t, reflect.DeepEqual(moved, api.Station{}), e, want)
		}
		weeks, e := stations.Steps(s)
		expectError(t, len(weeks) == 0, e, want)
		at, e := stations.StationOf([]api.Station{s}, 0)
		expectError(t, at == 0, e, want)
	}
	for _, s := range badPlaces() {
		expect(s, api.ErrStation)
	}
	for _, s := range badHeights() {
		expect(s, api.ErrHeight)
	}
	for _, week := range noWeeks() {
		none, e := zero(stations.Height(example()[0], week))
		expectError(t, none, e, api.ErrArg)
	}
	at, e := stations.StationOf(append(largest(), example()...), 1)
	expectError(t, at == 0, e, api.ErrLimit)
}

// TestErrorsOfTwo checks that the error of the first station comes first, then that of the second one, then ErrArg.
func TestErrorsOfTwo(t *testing.T) {
	expect := func(a, b api.Station, want api.Errno) {
		t.Helper()
		none, e := zero(stations.Distance(a, b))
		expectError(t, none, e, want)
		for _, w := range append(badWinds(), exampleWind()) {
			none, e = zero(stations.Within(w, a, b))
			expectError(t, none, e, want)
		}
		for _, ticks := range []int{0, 1} {
			none, e = zero(stations.Speed(a, b, ticks))
			expectError(t, none, e, want)
		}
	}
	good, place, heights := example()[0], badPlaces()[0], badHeights()[0]
	for _, s := range badPlaces() {
		expect(s, good, api.ErrStation)
		expect(good, s, api.ErrStation)
		expect(s, heights, api.ErrStation)
	}
	for _, s := range badHeights() {
		expect(s, good, api.ErrHeight)
		expect(good, s, api.ErrHeight)
		expect(s, place, api.ErrHeight)
	}
	for _, w := range badWinds() {
		for _, s := range example() {
			none, e := zero(stations.Within(w, good, s))
			expectError(t, none, e, api.ErrArg)
		}
	}
}

// TestArgumentsStay checks that no argument is changed, and that no two results share memory.
func TestArgumentsStay(t *testing.T) {
	l, levels := example(), []int{10000, 10124, 9642}
	first := must(stations.Seaside(exampleWind(), l, 0, levels))
	second := must(stations.Seaside(exampleWind(), l, 0, levels))
	rows := must(stations.Tight(exampleWind(), l))
	rows[0][0], first[0] = 9, 9
	must(stations.Way(exampleWind(), l, 0, 2))
	_, e := stations.Apart(exampleWind(), l, 0, levels)
	expectError(t, true, e, api.ErrNone)
	if !reflect.DeepEqual(l, example()) || !slices.Equal(levels, []int{10000, 10124, 9642}) || second[0] != 10125 {
		t.Error(l, levels, second)
	}
	if again := must(stations.Tight(exampleWind(), l)); again[0][0] != 0 {
		t.Error(again)
	}
}
