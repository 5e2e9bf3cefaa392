package atlas_test

import (
	"slices"
	"testing"

	"aneroid/api"
	"aneroid/archive"
	"aneroid/atlas"
	"aneroid/weeks"
)

func TestExamples(t *testing.T) {
	x, e := atlas.Build(base(), register(), 0, 2)
	expect(t, x.Trouble, e, api.OK)
	expect(t, x.Shown[0].Levels[:2], e, [][]api.Span{set(9998, 10001), set(10001, 10004)})
	expect(t, x.Base, e, base())
	expect(t, x.Week, e, must(archive.WeekOf(base(), register(), 0)))
	expect(t, x.Rise, e, 2)
	expect(t, len(x.Core)+len(x.Drops), e, 0)
	s, e := atlas.SpanOf(x, 2, 1)
	expect(t, s, e, span(10001, 10005))
	s, e = atlas.Sea(x, 2)
	expect(t, s, e, span(10001, 10005))
	l, e := atlas.CoursesOf(x, 2, 1, true)
	if e != api.OK || len(l) != 2 || l[1].Levels[1] != 10005 || l[0].Levels[1] != 10004 {
		t.Error(l, e)
	}
	n, e := atlas.FrontOf(x, 1, 0)
	expect(t, n, e, api.FrontMay)

	y, e := atlas.Build(base(), register(falseRead()), 0, 2)
	expect(t, y.Trouble, e, api.ErrClash)
	claim := api.Claim{Kind: api.ClaimRead}
	expect(t, y.Core, e, []api.Claim{claim})
	expect(t, y.Drops, e, [][]api.Claim{{claim}})
	expect(t, y.Shown, e, x.Shown)
}

// checkBuilt checks that an atlas is that of its base and its register.
func checkBuilt(t *testing.T, x api.Atlas, b api.Base, r api.Register, week, rise int) {
	t.Helper()
	w := must(archive.WeekOf(b, r, week))
	if !same(x.Base, b) || !same(x.Week, w) || x.Rise != rise {
		t.Fatal(x)
	}
	standing := w
	if !must(weeks.Whole(w)) {
		core, _ := weeks.Core(w)
		drops, _ := weeks.Drops(w)
		if x.Trouble != api.ErrClash || !same(x.Core, core) || !same(x.Drops, drops) {
			t.Fatal(x.Trouble, x.Core, x.Drops)
		}
		if len(drops) == 0 {
			if len(x.Shown) > 0 {
				t.Fatal(x)
			}
			return
		}
		standing = must(weeks.Without(w, drops[0]))
	} else if x.Trouble != api.OK || len(x.Core)+len(x.Drops) > 0 {
		t.Fatal(x.Trouble, x.Core, x.Drops)
	}
	if got := must(atlas.Standing(x)); !same(got, standing) || len(x.Shown) != len(standing.Sheets) {
		t.Fatal(got)
	}
	for i := range standing.Sheets {
		checkSheet(t, x.Shown[i], standing, i, rise)
	}
}

// checkSheet checks what is shown of a sheet.
func checkSheet(t *testing.T, s api.Shown, w api.Week, i, rise int) {
	t.Helper()
	levels := must(weeks.Levels(w, i))
	if !same(s.Levels, levels) || !same(s.Fronts, must(weeks.Fronts(w, i, rise))) {
		t.Fatal(s)
	}
	if len(s.Least) != len(levels) || len(s.Most) != len(levels) {
		t.Fatal(len(s.Least), len(s.Most))
	}
	for tick, l := range levels {
		low, high := s.Least[tick], s.Most[tick]
		if weeks.Keeps(w, low) != api.OK || weeks.Keeps(w, high) != api.OK {
			t.Fatal(low, high)
		}
		if low[i].Levels[tick] != l[0].Lo || high[i].Levels[tick] != l[len(l)-1].Hi {
			t.Fatal(low, high)
		}
	}
}

// TestBuild compares atlases of random weeks, true and false ones, with what layer 7 tells.
func TestBuild(t *testing.T) {
	x := newDice(1)
	troubles := map[api.Errno]int{}
	for i := range 150 {
		tr := x.truth(x.from(0, 3), usual)
		for range i % 4 {
			tr.note(x.falseNote(tr))
		}
		rise := x.one(-400, -3, -1, 1, 2, 5, 400)
		r := tr.register()
		a := must(atlas.Build(tr.base, r, tr.week, rise))
		checkBuilt(t, a, tr.base, r, tr.week, rise)
		expectFaults(t, i, a)
		troubles[a.Trouble]++
	}
	enough(t, "whole", troubles[api.OK], 40)
	enough(t, "clash", troubles[api.ErrClash], 30)
}

// split is a week whose sheets have levels in several spans at the term: the second one two thick lines, the first one a pen that moves by one tenth in a tick.
func split() (api.Base, api.Register) {
	b, r := base(), register()
	b.Ticks, b.Term, b.Wind.Fixed = 5, 3, 4
	for i := range r.Sheets {
		s := &r.Sheets[i].Sheet
		s.Trace = []api.Point{point(50, 500, 1), point(50, 510, 1), point(150, 501, 0), point(150, 511, 0), point(150, 530, 0)}
		s.Pen = api.Pen{Band: i, Zero: span(-1, 2*i), Rate: 1}
		s.Drum.Rates = set(2, 4)
	}
	return b, r
}

func TestSplitTerms(t *testing.T) {
	b, r := split()
	w := must(archive.WeekOf(b, r, 0))
	for i, l := range must(weeks.Terms(w)) {
		enough(t, "spans at the term", len(l), 2)
		t.Log(i, l)
	}
	a := must(atlas.Build(b, r, 0, 1))
	checkBuilt(t, a, b, r, 0, 1)
	expectFaults(t, "split", a)
}

// TestManyReadings has so many readings of one station that no further one would be allowed, at no tick twice, and none at the term.
func TestManyReadings(t *testing.T) {
	b, r := base(), register()
	b.Ticks = api.MaxReads + 5
	b.Term = b.Ticks
	for i := range r.Sheets {
		r.Sheets[i].Sheet.Drum.Rates = set(1, 40)
	}
	for tick := range api.MaxReads {
		r.Reads = append(r.Reads, read(1, 0, tick, 9900, 10100))
	}
	a := must(atlas.Build(b, r, 0, 1))
	checkBuilt(t, a, b, r, 0, 1)
	r.Reads = append(r.Reads, read(1, 0, b.Term, 9900, 10100))
	x, e := atlas.Build(b, r, 0, 1)
	expectError(t, x, e, api.ErrLimit)
}

func TestReadingsAtTheTerm(t *testing.T) {
	r := register(read(1, 0, 1, 10000, 10003), read(2, 0, 1, 0, 10003), read(1, 0, 1, 10002, 12000))
	a := must(atlas.Build(base(), r, 0, 1))
	checkBuilt(t, a, base(), r, 0, 1)
	expect(t, a.Shown[0].Levels[1], api.OK, set(10002, 10003))
}

func TestWithoutSheets(t *testing.T) {
	a := must(atlas.Build(base(), register(read(1, 5, 0, 1, 2)), 5, -1))
	checkBuilt(t, a, base(), register(read(1, 5, 0, 1, 2)), 5, -1)
	expectFaults(t, "no sheets", a)
	empty := api.Base{Ticks: 1, Clerks: 1}
	a = must(atlas.Build(empty, api.Register{}, 10000, 400))
	checkBuilt(t, a, empty, api.Register{}, 10000, 400)
	expectFaults(t, "no stations", a)
}

// TestHopeless has weeks that are not whole even without all claims, with none, and with too many of them.
func TestHopeless(t *testing.T) {
	x := hopeless()
	expect(t, x.Trouble, api.OK, api.ErrClash)
	expect(t, len(x.Core)+len(x.Drops)+len(x.Shown), api.OK, 0)
	expectFaults(t, "hopeless", x)
	r := register()
	for range api.MaxSmall {
		r.Reads = append(r.Reads, falseRead())
	}
	x = must(atlas.Build(base(), r, 0, 2))
	checkBuilt(t, x, base(), r, 0, 2)
	expect(t, len(x.Drops[0]), api.OK, api.MaxSmall)
	r.Reads = append(r.Reads, falseRead())
	x = must(atlas.Build(base(), r, 0, 2))
	checkBuilt(t, x, base(), r, 0, 2)
	expect(t, len(x.Core)+len(x.Drops)+len(x.Shown), api.OK, 0)
	expectFaults(t, "13 claims", x)
}

// large has a second sheet whose track would have more nodes than it may have.
func large() (api.Base, api.Register) {
	b, r := base(), register(falseRead())
	b.Ticks = api.MaxTicks
	s := &r.Sheets[1].Sheet
	s.Paper.Columns = 42
	s.Drum.Rates = slices.Repeat(set(1, 40), 41)
	return b, r
}

// TestBuildErrors goes through the errors of Build in their order.
func TestBuildErrors(t *testing.T) {
	b, r := large()
	week, rise := -1, 0
	bad := b
	bad.Clerks = 0
	r.Stations = nil
	x, e := atlas.Build(bad, r, week, rise)
	expectError(t, x, e, api.ErrBase)
	for _, week := range []int{-1, 10001} {
		x, e = atlas.Build(b, r, week, rise)
		expectError(t, x, e, api.ErrArg)
	}
	sheets := r.Sheets
	r.Sheets = slices.Repeat(sheets, 33)
	x, e = atlas.Build(b, r, 0, rise)
	expectError(t, x, e, api.ErrLimit)
	r.Sheets = sheets
	// There are no stations in the register, so the sheets are filed under none.
	x, e = atlas.Build(b, r, 0, rise)
	expectError(t, x, e, api.ErrWeek)
	r.Stations = []api.Station{{ID: 1}}
	x, e = atlas.Build(b, r, 0, rise)
	expectError(t, x, e, api.ErrHeight)
	r.Stations = base().Stations
	for _, rise := range []int{0, 401, -401} {
		x, e = atlas.Build(b, r, 0, rise)
		expectError(t, x, e, api.ErrArg)
	}
	x, e = atlas.Build(b, r, 0, 1)
	expectError(t, x, e, api.ErrLimit)
	r.Sheets = sheets[:1]
	x, e = atlas.Build(b, r, 0, 1)
	expect(t, len(x.Shown), e, 1)
}

// TestOddRegisters builds atlases of registers that no notes amount to: their weeks are valid, but their bases are not those that Check asks for.
func TestOddRegisters(t *testing.T) {
	r := register()
	r.Stations = append(slices.Clone(r.Stations), station(9, 0, 0, 5, 6))
	x := must(atlas.Build(base(), r, 0, 2))
	checkBuilt(t, x, base(), r, 0, 2)
	expectFaults(t, "a further station", x, api.Fault{Kind: api.FaultWeek})
}
