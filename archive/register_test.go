package archive_test

import (
	"math"
	"testing"

	"aneroid/api"
	"aneroid/archive"
)

// loose is a register that no set amounts to: functions with a register take one of any form.
func loose() api.Register {
	return api.Register{
		Sheets: []api.Filed{
			{Name: name(1, 1), Station: 7, Week: 3},
			{Name: name(1, 2), Station: 5, Week: 3, Sheet: sheet(3), Marks: []api.Mark{markAt(1, 2, 3)}, Names: []api.Name{name(1, 9)}},
			{Name: name(1, 1), Station: 7, Week: 3},
			{Name: name(-1, 0), Station: 7, Week: -4},
			{Name: name(1, 5), Station: -9, Week: 3},
			{Name: name(1, 6), Station: 5, Week: 10001},
			{Name: name(1, 7), Station: 5, Week: 3},
		},
		Reads: []api.Read{
			read(5, 3, 1, 2, 1), read(7, 3, 1, 0, 0), read(5, 0, 0, 0, 0), read(5, 3, -1, 0, 0), read(5, math.MaxInt, 0, 0, 0), read(-2, 3, 0, 0, 0),
		},
		Stations: []api.Station{
			{ID: 5, X: 1, Heights: []api.Height{height(3, 2, 1)}}, {ID: 5, X: 2}, {ID: -1, X: 3}, {ID: 70000, X: 4},
		},
		Conflicts: []api.Name{name(9, 9), name(1, 1)},
	}
}

func TestSheetOfAndSheetBy(t *testing.T) {
	for _, c := range []struct{ station, week, want int }{{7, 3, 0}, {5, 3, 1}, {7, -4, 3}, {-9, 3, 4}, {5, 10001, 5}} {
		i, e := archive.SheetOf(loose(), c.station, c.week)
		expect(t, i, e, c.want)
	}
	for _, c := range []struct{ station, week int }{{7, 4}, {3, 7}, {0, 0}, {9, 3}, {math.MinInt, 3}, {7, math.MaxInt}} {
		i, e := archive.SheetOf(loose(), c.station, c.week)
		expectError(t, i, e, api.ErrNone)
	}
	for want, n := range map[int]api.Name{0: name(1, 1), 1: name(1, 2), 3: name(-1, 0), 6: name(1, 7)} {
		i, e := archive.SheetBy(loose(), n)
		expect(t, i, e, want)
	}
	for _, n := range []api.Name{{}, name(2, 1), name(1, 9), name(9, 9), name(math.MinInt, 1)} {
		i, e := archive.SheetBy(loose(), n)
		expectError(t, i, e, api.ErrNone)
	}
	i, e := archive.SheetOf(api.Register{}, 0, 0)
	expectError(t, i, e, api.ErrNone)
	i, e = archive.SheetBy(api.Register{}, api.Name{})
	expectError(t, i, e, api.ErrNone)
}

func TestReadsOfAndWeeks(t *testing.T) {
	for _, c := range []struct {
		station, week int
		want          []int
	}{{5, 3, []int{0, 3}}, {7, 3, []int{1}}, {5, 0, []int{2}}, {5, math.MaxInt, []int{4}}, {-2, 3, []int{5}}, {7, 0, nil}, {0, 0, nil}, {3, 5, nil}} {
		l, e := archive.ReadsOf(loose(), c.station, c.week)
		expect(t, l, e, c.want)
	}
	l, e := archive.ReadsOf(api.Register{}, 0, 0)
	expect(t, l, e, nil)
	l, e = archive.Weeks(loose())
	expect(t, l, e, []int{-4, 0, 3, 10001, math.MaxInt})
	l, e = archive.Weeks(api.Register{})
	expect(t, l, e, nil)
	l, e = archive.Weeks(api.Register{Reads: []api.Read{read(5, 2, 0, 0, 0), read(5, 1, 0, 0, 0), read(7, 2, 0, 0, 0)}})
	expect(t, l, e, []int{1, 2})
}

func TestStationOf(t *testing.T) {
	b := base()
	for _, c := range []struct {
		id   int
		want api.Station
	}{
		{5, loose().Stations[0]}, {-1, loose().Stations[2]}, {70000, loose().Stations[3]}, {7, b.Stations[1]}, {9, b.Stations[2]},
	} {
		s, e := archive.StationOf(b, loose(), c.id)
		expect(t, s, e, c.want)
	}
	for _, id := range []int{0, 6, 65535, math.MinInt, math.MaxInt} {
		s, e := archive.StationOf(b, loose(), id)
		expectError(t, s, e, api.ErrNone)
	}
	s, e := archive.StationOf(b, api.Register{}, 5)
	expect(t, s, e, b.Stations[0])
}

func TestWeekOf(t *testing.T) {
	b, r := base(), loose()
	moved := b
	moved.Stations = r.Stations
	w, e := archive.WeekOf(b, r, 3)
	expect(t, w, e, api.Week{
		Base: moved, Week: 3,
		// Those of one station stay in order, behind those of a lesser one.
		Sheets: []api.Filed{r.Sheets[4], r.Sheets[1], r.Sheets[6], r.Sheets[0], r.Sheets[2]},
		Reads:  []api.Read{r.Reads[0], r.Reads[1], r.Reads[3], r.Reads[5]},
	})
	w, e = archive.WeekOf(b, r, 0)
	expect(t, w, e, api.Week{Base: moved, Reads: []api.Read{r.Reads[2]}})
	w, e = archive.WeekOf(b, r, 10000)
	expect(t, w, e, api.Week{Base: moved, Week: 10000})
	bare := b
	bare.Stations = nil
	w, e = archive.WeekOf(b, api.Register{}, 1)
	expect(t, w, e, api.Week{Base: bare, Week: 1})
	for _, week := range []int{-1, -4, 10001, math.MinInt, math.MaxInt} {
		w, e := archive.WeekOf(b, r, week)
		expectError(t, w, e, api.ErrArg)
	}
}

func TestWeekOfOnLimits(t *testing.T) {
	b := base()
	many := func(sheets, reads int) api.Register {
		r := loose()
		r.Sheets, r.Reads = nil, nil
		for i := range sheets {
			r.Sheets = append(r.Sheets, api.Filed{Name: name(1, i), Station: i % 3, Week: 2}, api.Filed{Week: 3})
		}
		for range reads {
			r.Reads = append(r.Reads, read(1, 2, 0, 0, 0), read(1, 3, 0, 0, 0))
		}
		return r
	}
	w, e := archive.WeekOf(b, many(64, 64), 2)
	if e != api.OK || len(w.Sheets) != 64 || len(w.Reads) != 64 {
		t.Error(e, len(w.Sheets), len(w.Reads))
	}
	for i, f := range w.Sheets[1:] {
		if before := w.Sheets[i]; f.Station < before.Station || f.Station == before.Station && f.Name.Num <= before.Name.Num {
			t.Error(i, before.Name, f.Name)
		}
	}
	for _, r := range []api.Register{many(65, 0), many(0, 65), many(65, 65)} {
		w, e := archive.WeekOf(b, r, 2)
		expectError(t, w, e, api.ErrLimit)
		w, e = archive.WeekOf(b, r, 10001)
		expectError(t, w, e, api.ErrArg)
		if _, e = archive.WeekOf(b, r, 4); e != api.OK {
			t.Error(e)
		}
	}
}
