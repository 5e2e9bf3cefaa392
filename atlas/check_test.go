package atlas_test

import (
	"fmt"
	"slices"
	"testing"

	"aneroid/api"
	"aneroid/archive"
	"aneroid/atlas"
	"aneroid/weeks"
)

// A bend changes an atlas.
type bend func(x *api.Atlas)

func fault(kind, index int) api.Fault { return api.Fault{Kind: kind, Index: index} }

// badBases makes atlases wrong for the first step.
var badBases = []bend{
	func(x *api.Atlas) { x.Base.Clerks = 0 },
	func(x *api.Atlas) { x.Base.Ticks = 401 },
	func(x *api.Atlas) { x.Base.Term = -1 },
	func(x *api.Atlas) { x.Base.Wind.Each = -1 },
	func(x *api.Atlas) { x.Base.Stations[1].Heights = nil },
	func(x *api.Atlas) { x.Base.Stations[1].ID = 1 },
	func(x *api.Atlas) { x.Rise = 0 },
	func(x *api.Atlas) { x.Rise = 401 },
	func(x *api.Atlas) { x.Rise = -401 },
	func(x *api.Atlas) { x.Trouble = api.ErrArg },
	func(x *api.Atlas) { x.Trouble = -71 },
	func(x *api.Atlas) { *x = api.Atlas{} },
}

// badWeeks makes them wrong for the second step.
var badWeeks = []bend{
	func(x *api.Atlas) { x.Week = api.Week{} },
	func(x *api.Atlas) { x.Week.Week = -1 },
	func(x *api.Atlas) { x.Week.Week = 1 },
	func(x *api.Atlas) { x.Week.Sheets[0].Station = 3 },
	func(x *api.Atlas) { x.Week.Sheets[1].Sheet.Pen.Band = 9 },
	func(x *api.Atlas) { x.Week.Base.Wind.Fixed++ },
	func(x *api.Atlas) { x.Week.Base.Wind.Each++ },
	func(x *api.Atlas) { x.Week.Base.Term = 0 },
	func(x *api.Atlas) { x.Week.Base.Ticks = 3 },
	func(x *api.Atlas) { x.Week.Base.Clerks = 2 },
	func(x *api.Atlas) { x.Week.Base.Stations[1].X++ },
	func(x *api.Atlas) { x.Week.Base.Stations[1].Y++ },
	func(x *api.Atlas) { x.Base.Stations[1].ID = 3 },
	func(x *api.Atlas) { x.Base.Stations = x.Base.Stations[:1] },
	func(x *api.Atlas) { x.Week.Base.Stations = append(x.Week.Base.Stations, station(9, 0, 0, 0, 0)) },
	func(x *api.Atlas) { x.Week.Base.Stations[0].Heights[0].Metres.Hi = 1 },
	func(x *api.Atlas) {
		x.Base.Stations[0].Heights = append(x.Base.Stations[0].Heights, api.Height{Week: 7})
	},
	func(x *api.Atlas) { x.Base.Stations[1].Heights[0].Metres = span(5, 5) },
}

// badShown makes what is shown of the sheet 1 wrong for the fourth step.
var badShown = []bend{
	func(x *api.Atlas) { x.Shown[1].Levels[2][0].Lo++ },
	func(x *api.Atlas) { x.Shown[1].Levels[0][0].Hi++ },
	func(x *api.Atlas) { x.Shown[1].Levels = x.Shown[1].Levels[:2] },
	func(x *api.Atlas) { x.Shown[1].Levels = append(x.Shown[1].Levels, nil) },
	func(x *api.Atlas) { x.Shown[1].Levels[1] = append(x.Shown[1].Levels[1], span(20000, 20000)) },
	func(x *api.Atlas) { x.Shown[1].Levels[1] = nil },
	func(x *api.Atlas) { x.Shown[1].Fronts[1] = 3 - x.Shown[1].Fronts[1] },
	func(x *api.Atlas) { x.Shown[1].Fronts = x.Shown[1].Fronts[:1] },
	func(x *api.Atlas) { x.Shown[1].Fronts = append(x.Shown[1].Fronts, 0) },
	func(x *api.Atlas) { x.Shown[1] = x.Shown[0] },
	func(x *api.Atlas) { x.Shown[1] = api.Shown{} },
}

// badBounds makes the courses of the sheet 1 wrong for the last step.
var badBounds = []bend{
	func(x *api.Atlas) { x.Shown[1].Least = nil },
	func(x *api.Atlas) { x.Shown[1].Most = x.Shown[1].Most[:2] },
	func(x *api.Atlas) { x.Shown[1].Least = append(x.Shown[1].Least, x.Shown[1].Least[2]) },
	func(x *api.Atlas) { x.Shown[1].Least, x.Shown[1].Most = x.Shown[1].Most, x.Shown[1].Least },
	func(x *api.Atlas) { x.Shown[1].Least[1] = x.Shown[1].Most[1] },
	func(x *api.Atlas) { x.Shown[1].Most[0] = x.Shown[0].Least[0] },
	func(x *api.Atlas) { x.Shown[1].Most[0] = nil },
	func(x *api.Atlas) { x.Shown[1].Most[2] = x.Shown[1].Most[2][:1] },
	func(x *api.Atlas) { x.Shown[1].Most[2][0].Levels[2]-- },
	func(x *api.Atlas) { x.Shown[1].Most[2][0].Levels = nil },
	func(x *api.Atlas) { x.Shown[1].Least[0][1].Zero = 1 },
	func(x *api.Atlas) { x.Shown[1].Least[0][0].Ticks[1] = 9 },
	func(x *api.Atlas) { slices.Reverse(x.Shown[1].Least[0]) },
}

// TestFaults bends atlases, with and without a clash, for one step, and for all further ones as well.
func TestFaults(t *testing.T) {
	for name, good := range map[string]api.Atlas{"plain": plain(), "clashing": clashing()} {
		expectFaults(t, name, good)
		slips := []bend{
			func(x *api.Atlas) { x.Trouble = api.OK + api.ErrClash - x.Trouble },
			func(x *api.Atlas) { x.Core = append(x.Core, api.Claim{Kind: api.ClaimRead, Index: 1}) },
			func(x *api.Atlas) { x.Drops = append(x.Drops, nil) },
			func(x *api.Atlas) {
				x.Drops = append([][]api.Claim{{{Kind: api.ClaimRead}}}, x.Drops...)
			},
		}
		steps := [][]bend{badBases, badWeeks, slips, badShown, badBounds}
		for step, bends := range steps {
			want := fault(step+1, 0)
			if step >= 3 {
				want.Index = 1
			}
			for i, one := range bends {
				what := fmt.Sprint(name, " step ", step+1, " bend ", i)
				expectFaults(t, what, bent(good, one), want)
				expectFaults(t, what+" and others", bent(good, func(x *api.Atlas) {
					for later := len(steps) - 1; later > step; later-- {
						steps[later][0](x)
					}
					one(x)
				}), want)
			}
		}
	}
}

// TestFaultSlips is for what only atlases with a clash have.
func TestFaultSlips(t *testing.T) {
	for i, one := range []bend{
		func(x *api.Atlas) { x.Core = nil },
		func(x *api.Atlas) { x.Core[0].Index = 0 },
		func(x *api.Atlas) { x.Core[0].Kind = api.ClaimMark },
		func(x *api.Atlas) { x.Core[0].Sheet = 1 },
		func(x *api.Atlas) { x.Drops = nil },
		func(x *api.Atlas) { x.Drops[0] = nil },
		func(x *api.Atlas) { x.Drops = append(x.Drops, x.Drops[0]) },
		func(x *api.Atlas) { x.Drops[0][0].Index = 0 },
	} {
		expectFaults(t, i, bent(clashing(), one), fault(api.FaultSlip, 0))
		expectFaults(t, i, bent(clashing(), func(x *api.Atlas) {
			one(x)
			x.Shown = nil
		}), fault(api.FaultSlip, 0))
	}
	// With two sets that are equally small, their order counts.
	two := must(atlas.Build(base(), register(read(1, 0, 1, 10001, 10001), read(1, 0, 1, 10003, 10003)), 0, 2))
	expectFaults(t, "two drops", two)
	expect(t, len(two.Drops), api.OK, 2)
	expectFaults(t, "another order", bent(two, func(x *api.Atlas) { slices.Reverse(x.Drops) }), fault(api.FaultSlip, 0))
	expectFaults(t, "hopeless", bent(hopeless(), func(x *api.Atlas) { x.Drops = [][]api.Claim{nil} }), fault(api.FaultSlip, 0))
	expectFaults(t, "hopeless", bent(hopeless(), func(x *api.Atlas) { x.Core = []api.Claim{{Kind: api.ClaimRead}} }), fault(api.FaultSlip, 0))
}

// TestFaultsOfSeveralSheets is for the indices of the last two steps.
func TestFaultsOfSeveralSheets(t *testing.T) {
	for _, x := range []api.Atlas{plain(), clashing()} {
		expectFaults(t, "both", bent(x, func(x *api.Atlas) { slices.Reverse(x.Shown) }), fault(api.FaultShown, 0), fault(api.FaultShown, 1))
		expectFaults(t, "first", bent(x, func(x *api.Atlas) { x.Shown[0].Fronts = nil }), fault(api.FaultShown, 0))
		expectFaults(t, "first", bent(x, func(x *api.Atlas) { x.Shown[0].Least[1] = nil }), fault(api.FaultBound, 0))
		expectFaults(t, "both", bent(x, func(x *api.Atlas) {
			x.Shown[0].Least, x.Shown[0].Most = nil, nil
			x.Shown[1].Most[0][1].Shown[0]++
		}), fault(api.FaultBound, 0), fault(api.FaultBound, 1))
	}
}

// TestFaultsOfNumbers is for atlases that show too few sheets, or too many: nothing else of the step is looked at then.
func TestFaultsOfNumbers(t *testing.T) {
	for _, x := range []api.Atlas{plain(), clashing()} {
		for count, one := range []bend{
			func(x *api.Atlas) { x.Shown = nil },
			func(x *api.Atlas) { x.Shown = x.Shown[:1] },
			nil,
			func(x *api.Atlas) { x.Shown = append(x.Shown, x.Shown[1]) },
			func(x *api.Atlas) { x.Shown = append(x.Shown, api.Shown{}, api.Shown{}) },
		} {
			if one != nil {
				expectFaults(t, count, bent(x, one), fault(api.FaultShown, count))
				expectFaults(t, count, bent(x, func(x *api.Atlas) {
					x.Shown[0].Levels[0] = nil
					one(x)
				}), fault(api.FaultShown, count))
			}
		}
	}
	expectFaults(t, "hopeless", bent(hopeless(), func(x *api.Atlas) { x.Shown = plain().Shown }), fault(api.FaultShown, 2))
}

// TestFaultOfLimit is for a week whose Whole returns ErrLimit.
func TestFaultOfLimit(t *testing.T) {
	b, r := large()
	x := api.Atlas{Base: b, Week: must(archive.WeekOf(b, r, 0)), Rise: 1}
	expectFaults(t, "large", x, fault(api.FaultWeek, 0))
	x.Trouble = api.ErrClash
	expectFaults(t, "large", x, fault(api.FaultWeek, 0))
}

// TestFurtherHeights is for weeks whose stations were moved: all heights of the base are among theirs, in some order.
func TestFurtherHeights(t *testing.T) {
	b, r := base(), register()
	b.Stations[0].Heights = append(b.Stations[0].Heights, api.Height{Week: 4, Metres: span(3, 9)})
	for i, heights := range [][]api.Height{
		{{}, {Week: 4, Metres: span(3, 9)}},
		{{}, {Week: 2, Metres: span(1, 1)}, {Week: 4, Metres: span(3, 9)}, {Week: 8}},
	} {
		r.Stations[0].Heights = heights
		expectFaults(t, i, must(atlas.Build(b, r, 0, 2)))
	}
	for i, heights := range [][]api.Height{
		{{}},
		{{}, {Week: 4, Metres: span(3, 8)}},
		{{}, {Week: 5, Metres: span(3, 9)}},
	} {
		r.Stations[0].Heights = heights
		expectFaults(t, i, must(atlas.Build(b, r, 0, 2)), fault(api.FaultWeek, 0))
	}
}

// TestOtherCourses is for atlases whose courses somebody else found: any that are right will do.
func TestOtherCourses(t *testing.T) {
	x := newDice(2)
	for range 20 {
		tr := x.truth(1, usual)
		a := must(atlas.Build(tr.base, tr.register(), 1, 3))
		for i, s := range a.Shown {
			for tick, l := range s.Levels {
				s.Least[tick] = must(weeks.Courses(a.Week, i, tick, l[0].Lo))
				s.Most[tick] = must(weeks.Courses(a.Week, i, tick, l[len(l)-1].Hi))
			}
		}
		expectFaults(t, "others", a)
	}
}

// TestEmptyListsAndNone checks an atlas in which empty lists and none stand for one another.
func TestEmptyListsAndNone(t *testing.T) {
	expectFaults(t, "empty lists", bent(plain(), func(x *api.Atlas) {
		x.Core, x.Drops, x.Week.Reads = []api.Claim{}, [][]api.Claim{}, []api.Read{}
		x.Week.Sheets[0].Marks, x.Week.Sheets[0].Names = []api.Mark{}, []api.Name{}
	}))
	b := must(atlas.Build(base(), register(read(1, 3, 0, 1, 2)), 3, 2))
	b.Shown = []api.Shown{}
	expectFaults(t, "nothing shown", b)
}

// TestRandomFaults takes a step from right atlases somewhere: nothing that is said of a week can be something else.
func TestRandomFaults(t *testing.T) {
	x := newDice(3)
	seen := map[int]int{}
	for range 60 {
		tr := x.truth(2, usual)
		for range x.IntN(2) {
			tr.note(x.falseNote(tr))
		}
		good := must(atlas.Build(tr.base, tr.register(), 2, x.one(-3, 3)))
		if len(good.Shown) == 0 {
			continue
		}
		for range 10 {
			i := x.IntN(len(good.Shown))
			tick := x.IntN(tr.base.Ticks)
			a, want := copied(good), fault(api.FaultShown, i)
			s := &a.Shown[i]
			switch x.IntN(4) {
			case 0:
				s.Fronts[tick] = (s.Fronts[tick] + x.from(1, 2)) % 3
			case 1:
				s.Levels[tick][0].Lo -= x.one(-1, 1)
			case 2:
				s.Least[tick][i].Levels[tick]++
				want.Kind = api.FaultBound
			case 3:
				k := x.IntN(len(good.Shown))
				s.Most[tick][k].Ticks[0] += x.one(-9, 9)
				want.Kind = api.FaultBound
			}
			expectFaults(t, "random", a, want)
			seen[want.Kind]++
		}
	}
	enough(t, "faults in what is shown", seen[api.FaultShown], 100)
	enough(t, "faults of courses", seen[api.FaultBound], 100)
}
