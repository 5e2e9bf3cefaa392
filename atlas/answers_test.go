package atlas_test

import (
	"math"
	"slices"
	"testing"

	"aneroid/api"
	"aneroid/atlas"
	"aneroid/weeks"
)

// extremes are numbers that are no index.
var extremes = []int{-1, math.MinInt, math.MaxInt}

func TestStanding(t *testing.T) {
	x := plain()
	w, e := atlas.Standing(x)
	expect(t, w, e, x.Week)
	y := clashing()
	w, e = atlas.Standing(y)
	expect(t, w, e, must(weeks.Without(y.Week, y.Drops[0])))
	expect(t, len(w.Reads), e, 1)

	// Without trouble the week may have any form.
	odd := api.Week{Week: -7, Sheets: []api.Filed{{Station: 4}, {Station: 4}}}
	w, e = atlas.Standing(api.Atlas{Week: odd, Core: y.Core, Drops: y.Drops})
	expect(t, w, e, odd)
	w, e = atlas.Standing(api.Atlas{})
	expect(t, w, e, api.Week{})
	for _, trouble := range []api.Errno{api.ErrArg, api.ErrAtlas, -71, math.MaxInt} {
		w, e = atlas.Standing(bent(y, func(x *api.Atlas) { x.Trouble = trouble }))
		expectError(t, w, e, api.ErrAtlas)
	}
	w, e = atlas.Standing(hopeless())
	expectError(t, w, e, api.ErrAtlas)
	w, e = atlas.Standing(bent(y, func(x *api.Atlas) { x.Drops = nil }))
	expectError(t, w, e, api.ErrAtlas)

	// The errors of weeks.Without, and its order.
	w, e = atlas.Standing(bent(y, func(x *api.Atlas) { x.Drops[0][0].Index = 2 }))
	expectError(t, w, e, api.ErrArg)
	w, e = atlas.Standing(bent(y, func(x *api.Atlas) { x.Week.Week, x.Drops[0][0].Index = 1, 2 }))
	expectError(t, w, e, api.ErrWeek)
	w, e = atlas.Standing(bent(y, func(x *api.Atlas) { x.Week.Base.Stations[1].ID = 0 }))
	expectError(t, w, e, api.ErrStation)
	// Only the first set counts.
	w, e = atlas.Standing(bent(y, func(x *api.Atlas) { x.Drops = [][]api.Claim{nil, {{}}} }))
	expect(t, w, e, y.Week)
}

// An asked is a function about the sheet of a station at a tick; ask tells whether it returns the zero value, and its error.
type asked struct {
	name string
	ask  func(x api.Atlas, station, tick int) (isZero bool, e api.Errno)
}

func question[T any](name string, ask func(x api.Atlas, station, tick int) (T, api.Errno)) asked {
	return asked{name, func(x api.Atlas, station, tick int) (bool, api.Errno) {
		var zero T
		got, e := ask(x, station, tick)
		return same(got, zero), e
	}}
}

func courses(high bool) func(x api.Atlas, station, tick int) ([]api.Course, api.Errno) {
	return func(x api.Atlas, station, tick int) ([]api.Course, api.Errno) {
		return atlas.CoursesOf(x, station, tick, high)
	}
}

// questions are all functions about the sheet of a station at a tick.
func questions() []asked {
	return []asked{
		question("LevelsOf", atlas.LevelsOf),
		question("SpanOf", atlas.SpanOf),
		question("May", func(x api.Atlas, station, tick int) (bool, api.Errno) { return atlas.May(x, station, tick, 10003) }),
		question("Least", courses(false)),
		question("Most", courses(true)),
		question("FrontOf", atlas.FrontOf),
		question("Sea", func(x api.Atlas, station, tick int) (api.Span, api.Errno) {
			x.Base.Term = tick
			return atlas.Sea(x, station)
		}),
	}
}

// TestErrors asks what no atlas tells.
func TestErrors(t *testing.T) {
	expectErrors := func(x api.Atlas, station, tick int, want api.Errno) {
		t.Helper()
		for _, q := range questions() {
			if zero, e := q.ask(x, station, tick); !zero || e != want {
				t.Error(q.name, station, tick, zero, e, "not", want)
			}
		}
	}
	for _, x := range []api.Atlas{plain(), clashing()} {
		expectErrors(x, 3, 0, api.ErrNone)
		expectErrors(x, 2, 3, api.ErrAtlas)
		for _, n := range extremes {
			expectErrors(x, n, n, api.ErrNone)
			expectErrors(x, 1, n, api.ErrAtlas)
		}
		expectErrors(bent(x, func(x *api.Atlas) { x.Shown = nil }), 1, 0, api.ErrAtlas)
		expectErrors(bent(x, func(x *api.Atlas) { x.Shown = x.Shown[:1] }), 2, 0, api.ErrAtlas)
		expectErrors(bent(x, func(x *api.Atlas) { x.Shown[1] = api.Shown{} }), 2, 0, api.ErrAtlas)
		expectErrors(bent(x, func(x *api.Atlas) { x.Trouble = api.ErrNone }), 3, -1, api.ErrAtlas)
	}
	expectErrors(hopeless(), 9, 9, api.ErrAtlas)
	expectErrors(bent(clashing(), func(x *api.Atlas) { x.Drops[0][0].Kind = 3 }), 9, 9, api.ErrArg)
	expectErrors(api.Atlas{}, 0, 0, api.ErrNone)
}

// TestAnswers asks for everything that atlases tell.
func TestAnswers(t *testing.T) {
	for _, x := range []api.Atlas{plain(), clashing()} {
		for i, s := range x.Shown {
			id := i + 1
			for tick, levels := range s.Levels {
				got, e := atlas.LevelsOf(x, id, tick)
				expect(t, got, e, levels)
				ends, e := atlas.SpanOf(x, id, tick)
				expect(t, ends, e, span(levels[0].Lo, levels[len(levels)-1].Hi))
				low, e := atlas.CoursesOf(x, id, tick, false)
				expect(t, low, e, s.Least[tick])
				high, e := atlas.CoursesOf(x, id, tick, true)
				expect(t, high, e, s.Most[tick])
				for level := 9990; level < 10020; level++ {
					may, e := atlas.May(x, id, tick, level)
					expect(t, may, e, has(levels, level))
				}
			}
			for tick, chance := range s.Fronts {
				got, e := atlas.FrontOf(x, id, tick)
				expect(t, got, e, chance)
			}
			got, e := atlas.FrontOf(x, id, x.Base.Ticks)
			expectError(t, got, e, api.ErrAtlas)
		}
	}
}

// TestOddLists is for lists that no sheet has: each question needs its own one alone.
func TestOddLists(t *testing.T) {
	x := api.Atlas{Week: api.Week{Sheets: []api.Filed{{Station: -4}, {Station: -4}}}, Shown: []api.Shown{
		{Levels: [][]api.Span{nil, set(5, 3, -9, -8, 5, 7)}, Least: [][]api.Course{nil}, Fronts: []int{0, 0, 17}},
		{Levels: [][]api.Span{set(1, 1), set(1, 1), set(1, 1)}},
	}}
	l, e := atlas.LevelsOf(x, -4, 0)
	expect(t, l, e, nil)
	s, e := atlas.SpanOf(x, -4, 0)
	expectError(t, s, e, api.ErrAtlas)
	may, e := atlas.May(x, -4, 0, 0)
	expect(t, may, e, false)
	s, e = atlas.SpanOf(x, -4, 1)
	expect(t, s, e, span(5, 7))
	for level, want := range map[int]bool{3: false, 4: false, 6: true, -9: true, -7: false, math.MinInt: false} {
		may, e = atlas.May(x, -4, 1, level)
		expect(t, may, e, want)
	}
	l, e = atlas.LevelsOf(x, -4, 2)
	expectError(t, l, e, api.ErrAtlas)
	c, e := atlas.CoursesOf(x, -4, 0, false)
	expect(t, c, e, nil)
	c, e = atlas.CoursesOf(x, -4, 0, true)
	expectError(t, c, e, api.ErrAtlas)
	n, e := atlas.FrontOf(x, -4, 2)
	expect(t, n, e, 17)
}

func TestCorrected(t *testing.T) {
	l, e := atlas.Corrected(clashing())
	expect(t, l, e, []api.Claim{{Kind: api.ClaimRead, Index: 1}})
	l, e = atlas.Corrected(plain())
	expectError(t, l, e, api.ErrAtlas)
	l, e = atlas.Corrected(bent(clashing(), func(x *api.Atlas) { x.Trouble = api.ErrLimit }))
	expectError(t, l, e, api.ErrAtlas)
	l, e = atlas.Corrected(hopeless())
	expectError(t, l, e, api.ErrNone)
	l, e = atlas.Corrected(api.Atlas{Trouble: api.ErrClash, Drops: [][]api.Claim{{{Kind: 9}, {Index: -4}}, nil}})
	expect(t, l, e, []api.Claim{{Kind: 9}, {Index: -4}})
	l, e = atlas.Corrected(api.Atlas{Trouble: api.ErrClash, Drops: [][]api.Claim{nil}})
	expect(t, l, e, nil)
}

func TestOpen(t *testing.T) {
	l, e := atlas.Open(plain())
	expect(t, l, e, []int{3, 3})
	l, e = atlas.Open(clashing())
	expect(t, l, e, []int{3, 3})
	l, e = atlas.Open(hopeless())
	expect(t, l, e, nil)
	l, e = atlas.Open(must(atlas.Build(base(), register(read(1, 0, 0, 10000, 10000)), 0, 1)))
	expect(t, l, e, []int{1, 3})
	x := api.Atlas{Trouble: api.ErrClash, Shown: []api.Shown{{}, {Levels: [][]api.Span{nil, set(4, 4), set(4, 5), set(4, 4, 6, 6), set(5, 4), set(-1, -1)}}}}
	l, e = atlas.Open(x)
	expect(t, l, e, []int{0, 4})
	x.Trouble = api.ErrAtlas
	l, e = atlas.Open(x)
	expectError(t, l, e, api.ErrAtlas)
}

func TestCompare(t *testing.T) {
	x := plain()
	l, e := atlas.Compare(x, x)
	expect(t, l, e, nil)
	// The standing week of this one is that of the other one but for a reading which adds nothing.
	l, e = atlas.Compare(x, must(atlas.Build(base(), register(falseRead()), 0, -9)))
	expect(t, l, e, nil)
	low := must(atlas.Build(base(), register(read(2, 0, 2, 9998, 10007)), 0, 2))
	l, e = atlas.Compare(x, low)
	expect(t, l, e, []int{2})
	l, e = atlas.Compare(bent(x, func(x *api.Atlas) { x.Shown[0].Levels[2] = nil }), low)
	expect(t, l, e, []int{1, 2})

	// Sheets that one of both has alone.
	r := register()
	r.Sheets = r.Sheets[1:]
	one := must(atlas.Build(base(), r, 0, 2))
	one.Shown[0] = x.Shown[1]
	l, e = atlas.Compare(x, one)
	expect(t, l, e, []int{1})
	l, e = atlas.Compare(one, x)
	expect(t, l, e, nil)
	for _, less := range []func(x *api.Atlas){
		func(x *api.Atlas) { x.Shown = x.Shown[:1] },
		func(x *api.Atlas) { x.Week.Sheets[1].Station = 7 },
	} {
		l, e = atlas.Compare(x, bent(x, less))
		expect(t, l, e, []int{2})
	}
	l, e = atlas.Compare(bent(x, func(x *api.Atlas) { x.Shown = x.Shown[:1] }), x)
	expect(t, l, e, []int{2})
	l, e = atlas.Compare(bent(x, func(x *api.Atlas) { x.Shown = nil }), bent(x, func(x *api.Atlas) { x.Shown = nil }))
	expect(t, l, e, []int{1, 2})

	// Nothing but the levels counts, and no list is another thing than an empty one.
	l, e = atlas.Compare(x, bent(x, func(x *api.Atlas) {
		for i := range x.Shown {
			x.Shown[i] = api.Shown{Levels: x.Shown[i].Levels}
		}
	}))
	expect(t, l, e, nil)
	empty := func(levels [][]api.Span) api.Atlas {
		return api.Atlas{Week: api.Week{Sheets: []api.Filed{{Station: 3}}}, Shown: []api.Shown{{Levels: levels}}}
	}
	l, e = atlas.Compare(empty(nil), empty([][]api.Span{}))
	expect(t, l, e, nil)
	l, e = atlas.Compare(empty([][]api.Span{nil}), empty([][]api.Span{{}}))
	expect(t, l, e, nil)
	l, e = atlas.Compare(empty([][]api.Span{nil}), empty(nil))
	expect(t, l, e, []int{3})

	// The errors of both.
	bad := bent(clashing(), func(x *api.Atlas) { x.Drops[0][0].Kind = 3 })
	l, e = atlas.Compare(bad, hopeless())
	expectError(t, l, e, api.ErrArg)
	l, e = atlas.Compare(hopeless(), bad)
	expectError(t, l, e, api.ErrAtlas)
	l, e = atlas.Compare(x, bad)
	expectError(t, l, e, api.ErrArg)
	l, e = atlas.Compare(x, hopeless())
	expectError(t, l, e, api.ErrAtlas)
}

func TestSea(t *testing.T) {
	b, r := base(), register(read(2, 7, 1, 10002, 10003))
	// The atlas tells of the week 7, ahead of which the station 2 was moved twice.
	heights := []api.Height{{}, {Week: 5, Metres: span(10, 11)}, {Week: 7, Metres: span(80, 160)}, {Week: 8, Metres: span(400, 400)}}
	b.Wind.Fixed = 1000
	b.Stations[1].Heights, r.Stations[1].Heights = heights[:1], heights
	for i := range r.Sheets {
		r.Sheets[i].Week = 7
	}
	x := must(atlas.Build(b, r, 7, 2))
	s, e := atlas.Sea(x, 2)
	// 10002 + 100.02, 10003 + 200.06
	expect(t, s, e, span(10102, 10203))
	s, e = atlas.Sea(x, 1)
	expect(t, s, e, span(10001, 10004))

	// The term is that of Base, not that of the week.
	s, e = atlas.Sea(bent(x, func(x *api.Atlas) { x.Base.Term = 0 }), 1)
	expect(t, s, e, span(9998, 10001))
	s, e = atlas.Sea(bent(x, func(x *api.Atlas) { x.Week.Base.Term = 0 }), 1)
	expect(t, s, e, span(10001, 10004))
	s, e = atlas.Sea(bent(x, func(x *api.Atlas) { x.Shown[0].Levels[1] = nil }), 1)
	expectError(t, s, e, api.ErrAtlas)
	s, e = atlas.Sea(bent(x, func(x *api.Atlas) { x.Shown[0].Levels[1] = set(0, 5, 7, 8, 3, 9) }), 1)
	expect(t, s, e, span(0, 9))

	// The errors of Height, then those of Seas; all else may have any form.
	for _, one := range []struct {
		bend bend
		want api.Errno
	}{
		{func(x *api.Atlas) { x.Week.Base.Stations[1].Heights = nil }, api.ErrHeight},
		{func(x *api.Atlas) { x.Week.Base.Stations[1].X = -1 }, api.ErrStation},
		{func(x *api.Atlas) { x.Week.Base.Stations = x.Week.Base.Stations[:1] }, api.ErrStation},
		{func(x *api.Atlas) { x.Week.Week = -1 }, api.ErrArg},
		{func(x *api.Atlas) { x.Week.Week = 10001 }, api.ErrArg},
		{func(x *api.Atlas) { x.Shown[1].Levels[1] = set(-1, 5) }, api.ErrArg},
		{func(x *api.Atlas) { x.Shown[1].Levels[1] = set(5, 12001) }, api.ErrArg},
		{func(x *api.Atlas) { x.Shown[1].Levels[1], x.Week.Base.Stations[1].Heights = set(-1, 5), nil }, api.ErrHeight},
	} {
		s, e = atlas.Sea(bent(x, one.bend), 2)
		expectError(t, s, e, one.want)
	}
	for _, one := range []bend{
		func(x *api.Atlas) { x.Week.Base.Stations[0].Heights = nil },
		func(x *api.Atlas) { x.Week.Base.Stations[0].ID = 5 },
		func(x *api.Atlas) { x.Week.Base.Ticks = -1 },
		func(x *api.Atlas) { x.Base.Stations = nil },
	} {
		s, e = atlas.Sea(bent(x, one), 2)
		expect(t, s, e, span(10102, 10203))
	}
}

// TestAnyForm asks atlases everything in whose bytes numbers were exchanged: no call panics, and each that returns an error returns nothing else.
func TestAnyForm(t *testing.T) {
	x := newDice(9)
	good := [][]byte{must(atlas.Encode(plain())), must(atlas.Encode(clashing()))}
	decoded, faults := 0, map[int]int{}
	for range 4000 {
		l := slices.Clone(good[x.IntN(2)])
		for range x.from(1, 2) {
			// The first numbers are those of the base and of the week, which matter most.
			i := x.IntN(x.one(len(l), 300, 40))
			l[i] = l[i]&128 + byte(x.IntN(128))
		}
		a, e := atlas.Decode(l)
		if e != api.OK {
			continue
		}
		decoded++
		for _, f := range atlas.Check(a) {
			faults[f.Kind]++
		}
		for _, q := range questions() {
			if zero, e := q.ask(a, x.from(0, 3), x.from(-1, 3)); e != api.OK && !zero {
				t.Fatal(q.name, e)
			}
		}
		atlas.Standing(a)
		atlas.Open(a)
		atlas.Corrected(a)
		atlas.Compare(a, plain())
		atlas.Trend([]api.Atlas{a, told(3, 1, 2)}, 1)
	}
	enough(t, "decoded", decoded, 1000)
	for kind := api.FaultBase; kind <= api.FaultBound; kind++ {
		enough(t, "faults of a kind", faults[kind], 10)
	}
}
