package weeks_test

import (
	"slices"
	"testing"

	"aneroid/api"
	"aneroid/clocks"
	"aneroid/tracks"
	"aneroid/weeks"
)

// path returns the places of a course in the track of its zero, or false if it has states that no track has.
func path(w api.Week, sheet int, c api.Course) ([]api.At, bool) {
	f := w.Sheets[sheet]
	nodes := nodesOf(f, w.Base.Ticks)
	last := len(f.Sheet.Drum.Rates)
	if len(c.Ticks) != last+1 || len(c.Shown) != w.Base.Ticks+1 || len(c.Levels) != w.Base.Ticks+1 {
		return nil, false
	}
	var places []api.At
	for tick, shown := range c.Shown {
		n := node{column: -1, offset: c.Levels[tick] - c.Zero - shown}
		for column, at := range c.Ticks {
			if at <= tick {
				n.column, n.ago = column, tick-at
			}
		}
		if n.column == last {
			n.ago = min(n.ago, 1)
		}
		at := slices.Index(nodes, n)
		if at < 0 {
			return nil, false
		}
		places = append(places, api.At{Node: at, Value: shown})
	}
	return places, true
}

// courseOf returns the course of a sheet with the places of a track's course.
func courseOf(f api.Filed, ticks, zero int, places []api.At) api.Course {
	nodes := nodesOf(f, ticks)
	c := api.Course{Zero: zero, Ticks: make([]int, len(f.Sheet.Drum.Rates)+1)}
	for tick, p := range places {
		n := nodes[p.Node]
		if n.column >= 0 && n.ago == 0 {
			c.Ticks[n.column] = tick
		}
		c.Shown = append(c.Shown, p.Value)
		c.Levels = append(c.Levels, p.Value+n.offset+zero)
	}
	return c
}

// TestCoursesAndTracks is P7.3.
func TestCoursesAndTracks(t *testing.T) {
	x := newDice(20)
	s := small{ticks: 4, band: 2, rate: 3, zeros: 1, sheets: 1, marks: 1, reads: 1}
	taken, refused, none := 0, 0, 0
	for w := range x.weeks(s, 500) {
		f := w.Sheets[0]
		all := coursesOf(w, 0, f.Station)
		if len(all) == 0 {
			none += checkProofs(t, w)
			continue
		}
		checkFound(t, w, x)
		for range 20 {
			c := all[x.IntN(len(all))]
			if x.IntN(5) > 0 {
				if l := x.changed([]api.Course{c}); len(l) > 0 {
					c = l[0]
				}
			}
			isCourse := agrees(w, 0, f.Station, c)
			places, ok := path(w, 0, c)
			if ok {
				track, e := weeks.Track(w, 0, c.Zero)
				ok = e == api.OK && tracks.Keeps(track, places) == api.OK
			}
			if ok != isCourse {
				t.Fatal(w, c, ok)
			}
			if ok {
				taken++
			} else {
				refused++
			}
		}
	}
	enough(t, "taken", taken, 500)
	enough(t, "refused", refused, 500)
	enough(t, "proofs", none, 100)
}

// checkProofs checks that each track of a sheet without a course has a proof; it returns how many there are.
func checkProofs(t *testing.T, w api.Week) int {
	t.Helper()
	zeros := w.Sheets[0].Sheet.Pen.Zero
	for zero := zeros.Lo; zero <= zeros.Hi; zero++ {
		track := must(weeks.Track(w, 0, zero))
		if e := tracks.CheckProof(track, must(tracks.Prove(track))); e != api.OK {
			t.Error(w, zero, e)
		}
	}
	return zeros.Hi - zeros.Lo + 1
}

// checkFound checks that courses that are found through a track agree with the sheet.
func checkFound(t *testing.T, w api.Week, x dice) {
	t.Helper()
	w.Sheets = w.Sheets[:1]
	for _, zero := range must(weeks.Zeros(w, 0)) {
		track := must(weeks.Track(w, 0, zero))
		sets := must(tracks.All(track))
		stage := x.IntN(len(sets))
		for node, l := range sets[stage] {
			for _, value := range numbers(l) {
				places := must(tracks.With(track, stage, api.At{Node: node, Value: value}))
				c := courseOf(w.Sheets[0], w.Base.Ticks, zero, places)
				if e := weeks.Keeps(w, []api.Course{c}); e != api.OK {
					t.Fatal(w, c, e)
				}
			}
		}
	}
}

// wild returns a week with a sheet as few are: it has shrunk, its lines are bent, and its pen may be quick, stick long, and be anywhere.
func (d dice) wild() api.Week {
	w := example()
	w.Base.Ticks = d.from(1, 12)
	w.Base.Term = d.from(0, w.Base.Ticks)
	w.Sheets = w.Sheets[:1]
	s := &w.Sheets[0].Sheet
	low := d.one(0, 0, 5000, api.MaxLevel-60)
	s.Paper = api.Paper{Pitch: 100, Height: d.from(60, 400), Low: low, High: low + 60, Columns: d.from(2, 4), Along: d.span(950, 1050, 30), Across: d.span(950, 1050, 30)}
	s.Paper.Radius = d.one(0, s.Paper.Height)
	for range d.from(0, 4) {
		s.Trace = append(s.Trace, point(d.from(0, 100*s.Paper.Columns), d.from(0, s.Paper.Height), d.from(0, 6)))
	}
	if d.IntN(3) == 0 {
		s.Blots = []int{d.IntN(s.Paper.Columns)}
	}
	s.Drum = api.Drum{Stops: []api.Stop{{Column: 0, Ticks: span(0, d.from(0, 3))}}}
	for range s.Paper.Columns - 1 {
		s.Drum.Rates = append(s.Drum.Rates, d.span(1, 5, 12))
	}
	s.Pen = api.Pen{Band: d.from(0, api.MaxBand), Rate: d.one(0, 1, d.from(0, 20), api.MaxLevel)}
	s.Pen.Zero.Lo = d.one(-api.MaxZero, 0, api.MaxZero-2)
	s.Pen.Zero.Hi = s.Pen.Zero.Lo + d.from(0, 2)
	for range d.from(0, 2) {
		levels := d.span(max(0, low-100), min(api.MaxLevel, low+160), 80)
		w.Reads = append(w.Reads, api.Read{Station: 1, Tick: d.from(0, w.Base.Ticks), Levels: levels})
	}
	return w
}

// crossed returns a week with a sheet whose lines cross others: they leave sets of several spans.
func (d dice) crossed() api.Week {
	w := d.real(1).Week
	s := &w.Sheets[0].Sheet
	for _, p := range s.Trace {
		s.Trace = append(s.Trace, point(p.X, p.Y+d.from(-200, 200), 0))
	}
	return w
}

// TestTracksTell compares Zeros, Alone and Columns with what the tracks of larger sheets tell.
func TestTracksTell(t *testing.T) {
	x := newDice(21)
	whole, parted := 0, 0
	for i := range 300 {
		w := x.wild()
		if i%6 == 0 {
			w = x.crossed()
		}
		f := &w.Sheets[0]
		levels := make([][api.MaxLevel + 1]bool, w.Base.Ticks+1)
		columns := make([][]int, f.Sheet.Paper.Columns)
		var zeros []int
		for zero := f.Sheet.Pen.Zero.Lo; zero <= f.Sheet.Pen.Zero.Hi; zero++ {
			sets := must(tracks.All(must(weeks.Track(w, 0, zero))))
			found := false
			for tick, stage := range sets {
				for i, n := range nodesOf(*f, w.Base.Ticks) {
					for _, s := range stage[i] {
						found = true
						for shown := s.Lo; shown <= s.Hi; shown++ {
							levels[tick][shown+n.offset+zero] = true
						}
					}
					if n.column >= 0 && n.ago == 0 && len(stage[i]) > 0 {
						columns[n.column] = append(columns[n.column], tick)
					}
				}
			}
			if found {
				zeros = append(zeros, zero)
			}
		}
		got, e := weeks.Zeros(w, 0)
		expect(t, got, e, zeros)
		if len(zeros) == 0 {
			continue
		}
		whole++
		alone, e := weeks.Alone(w, 0)
		for tick, l := range alone {
			for level, is := range levels[tick] {
				if has(l, level) != is {
					t.Fatal(w, tick, level, l, e)
				}
			}
		}
		ticks, e := weeks.Columns(w, 0)
		for c, l := range ticks {
			expect(t, l, e, setOf(columns[c]))
		}
		if slices.ContainsFunc(alone, func(l []api.Span) bool { return len(l) > 1 }) {
			parted++
		}
	}
	enough(t, "whole", whole, 100)
	enough(t, "with sets of several spans", parted, 20)
}

// TestMixing is P7.4.
func TestMixing(t *testing.T) {
	x := newDice(22)
	mixed := 0
	s := usual
	s.sheets = 3
	for w := range x.weeks(s, 1000) {
		m := modelOf(w)
		if !m.isWhole() {
			continue
		}
		for range 10 {
			lists := [][]api.Course{m.list(x), m.list(x), m.list(x)}
			for rank := range 3 {
				var l, two []api.Course
				for i := range w.Sheets {
					all := []api.Course{lists[0][i], lists[1][i], lists[2][i]}
					pair := slices.Clone(all[:2])
					byTerm := func(a, b api.Course) int { return a.Levels[w.Base.Term] - b.Levels[w.Base.Term] }
					slices.SortStableFunc(all, byTerm)
					slices.SortStableFunc(pair, byTerm)
					l, two = append(l, all[rank]), append(two, pair[rank%2])
				}
				if weeks.Keeps(w, l) != api.OK || weeks.Keeps(w, two) != api.OK {
					t.Fatal(w, lists, rank)
				}
				if !same(l, lists[0]) && !same(l, lists[1]) && !same(l, lists[2]) {
					mixed++
				}
			}
		}
	}
	enough(t, "mixed", mixed, 1000)
}

// TestExchange is P7.5.
func TestExchange(t *testing.T) {
	x := newDice(23)
	exchanged, late := 0, 0
	s := small{ticks: 4, band: 1, rate: 2, zeros: 1, sheets: 2, marks: 1}
	for w := range x.weeks(s, 500) {
		m := modelOf(w)
		if !m.isWhole() {
			continue
		}
		for range 50 {
			l := m.list(x)
			i := x.IntN(len(l))
			a, b := l[i], m.region[i][x.IntN(len(m.region[i]))]
			first, _ := path(w, i, a)
			second, _ := path(w, i, b)
			tick := x.from(0, w.Base.Ticks)
			if a.Zero != b.Zero || first[tick] != second[tick] {
				continue
			}
			places := slices.Concat(first[:tick], second[tick:])
			c := courseOf(w.Sheets[i], w.Base.Ticks, a.Zero, places)
			if !agrees(w, i, w.Sheets[i].Station, c) {
				t.Fatal(w, a, b, tick)
			}
			exchanged++
			if tick < w.Base.Term && a.Levels[w.Base.Term] != b.Levels[w.Base.Term] {
				continue
			}
			late++
			l[i] = c
			if e := weeks.Keeps(w, l); e != api.OK {
				t.Fatal(w, l, tick)
			}
		}
	}
	enough(t, "exchanged", exchanged, 500)
	enough(t, "exchanged in the region", late, 300)
}

// TestNeighbours is P7.6.
func TestNeighbours(t *testing.T) {
	x := newDice(24)
	wider := 0
	s := usual
	s.sheets = 3
	for w := range x.weeks(s, 600) {
		if !must(weeks.Whole(w)) {
			continue
		}
		away := x.IntN(3)
		fewer := w
		fewer.Sheets = slices.Delete(slices.Clone(w.Sheets), away, away+1)
		for i := range w.Sheets {
			levels, alone := must(weeks.Levels(w, i)), must(weeks.Alone(w, i))
			only := w
			only.Sheets = w.Sheets[i : i+1]
			got, e := weeks.Levels(only, 0)
			expect(t, got, e, alone)
			for tick, l := range levels {
				if !isWithin(l, alone[tick]) {
					t.Fatal(w, i, tick)
				}
			}
			if i == away {
				continue
			}
			k := i
			if i > away {
				k--
			}
			more := must(weeks.Levels(fewer, k))
			for tick, l := range levels {
				if !isWithin(l, more[tick]) {
					t.Fatal(w, i, tick)
				}
			}
			if !same(more, levels) {
				wider++
			}
		}
	}
	enough(t, "wider", wider, 30)
}

// TestMoreIsKnown is P7.7.
func TestMoreIsKnown(t *testing.T) {
	x := newDice(25)
	changed, clashes := 0, 0
	for w := range x.weeks(usual, 2000) {
		if !must(weeks.Whole(w)) {
			continue
		}
		i, rise := x.IntN(2), x.one(rises...)
		more := known(w, x)
		if !must(weeks.Whole(more)) {
			clashes++
			continue
		}
		before, after := must(weeks.Levels(w, i)), must(weeks.Levels(more, i))
		for tick, l := range after {
			if !isWithin(l, before[tick]) {
				t.Fatal(w, more, i, tick)
			}
		}
		if !same(before, after) {
			changed++
		}
		for tick, chance := range must(weeks.Fronts(w, i, rise)) {
			now := must(weeks.Front(more, i, tick, rise))
			if chance != api.FrontMay && now != chance {
				t.Fatal(w, more, i, tick, rise)
			}
		}
	}
	enough(t, "changed", changed, 50)
	enough(t, "clashes", clashes, 50)
}

// known returns the week with a further reading, or a further mark.
func known(w api.Week, x dice) api.Week {
	i := x.IntN(len(w.Sheets))
	f := w.Sheets[i]
	if x.IntN(2) == 0 {
		low := f.Sheet.Paper.Low
		r := api.Read{Station: f.Station, Week: w.Week, Tick: x.from(0, w.Base.Ticks), Levels: x.span(low, low+lines, lines)}
		w.Reads = append(slices.Clone(w.Reads), r)
		return w
	}
	w.Sheets = slices.Clone(w.Sheets)
	mark := api.Mark{Column: x.IntN(f.Sheet.Paper.Columns), Ticks: x.span(0, w.Base.Ticks, 2)}
	w.Sheets[i].Marks = append(slices.Clone(f.Marks), mark)
	return w
}

// TestChances is P7.8.
func TestChances(t *testing.T) {
	x := newDice(26)
	s := usual
	s.rate = 4
	lists, never, certain := 0, 0, 0
	for w := range x.weeks(s, 600) {
		if !must(weeks.Whole(w)) {
			continue
		}
		m := modelOf(w)
		rise := x.one(rises...)
		fronts := [][]int{must(weeks.Fronts(w, 0, rise)), must(weeks.Fronts(w, 1, rise))}
		pairs := must(weeks.Passages(w, 0, 1, rise))
		for _, p := range pairs {
			if fronts[0][p[0]] == api.FrontNever || fronts[1][p[1]] == api.FrontNever {
				t.Fatal(w, rise, p)
			}
		}
		for range 20 {
			l := m.list(x)
			lists++
			for tick := range w.Base.Ticks {
				is := isFront(l[0], tick, rise)
				if is && fronts[0][tick] == api.FrontNever || !is && fronts[0][tick] == api.FrontCertain {
					t.Fatal(w, l, tick, rise)
				}
				for other := range w.Base.Ticks {
					if is && isFront(l[1], other, rise) && !slices.ContainsFunc(pairs, func(p []int) bool { return p[0] == tick && p[1] == other }) {
						t.Fatal(w, l, tick, other, rise)
					}
				}
			}
		}
		for from := range w.Base.Ticks {
			for to := from + 1; to <= w.Base.Ticks; to++ {
				surely := must(weeks.Surely(w, 0, from, to, rise))
				greatest := slices.Max(fronts[0][from:to])
				if surely < greatest || (surely == api.FrontNever) != (greatest == api.FrontNever) {
					t.Fatal(w, from, to, rise, surely)
				}
				if surely == api.FrontNever {
					never++
				} else if surely > greatest {
					certain++
				}
			}
		}
	}
	enough(t, "lists", lists, 2000)
	enough(t, "never", never, 100)
	enough(t, "certain within ticks alone", certain, 1)
}

// TestContradictions is P7.9.
func TestContradictions(t *testing.T) {
	x := newDice(27)
	cores := 0
	isWhole := func(w api.Week, l []api.Claim) bool { return must(weeks.Whole(must(weeks.Without(w, l)))) }
	for range 500 {
		w := x.contrary()
		claims := must(weeks.Claims(w))
		core, e := weeks.Core(w)
		if e != api.OK {
			continue
		}
		cores++
		if isWhole(w, rest(claims, core)) {
			t.Fatal(w, core)
		}
		for i := range core {
			if !isWhole(w, rest(claims, slices.Delete(slices.Clone(core), i, i+1))) {
				t.Fatal(w, core, i)
			}
		}
		drops, e := weeks.Drops(w)
		if e != api.OK {
			continue
		}
		for _, l := range drops {
			if !isWhole(w, l) || !slices.ContainsFunc(l, func(c api.Claim) bool { return slices.Contains(core, c) }) {
				t.Fatal(w, core, drops)
			}
		}
		for _, l := range setsOf(claims) {
			if len(l) < len(core) && !isWhole(w, rest(claims, l)) || len(l) < len(drops[0]) && isWhole(w, l) {
				t.Fatal(w, core, drops, l)
			}
			// A set that contradicts has a claim of each of Drops.
			if !isWhole(w, rest(claims, l)) && slices.ContainsFunc(drops, func(d []api.Claim) bool { return same(rest(l, d), l) }) {
				t.Fatal(w, drops, l)
			}
		}
	}
	enough(t, "cores", cores, 200)
}

// TestHomes is P7.10.
func TestHomes(t *testing.T) {
	x := newDice(28)
	own, others := 0, 0
	s := usual
	s.reads = 2
	for w := range x.weeks(s, 1000) {
		for i, f := range w.Sheets {
			homes := must(weeks.Homes(w, i))
			_, e := weeks.Alone(w, i)
			if slices.Contains(homes, f.Station) != (e == api.OK) {
				t.Fatal(w, i, homes, e)
			}
			own += min(1, len(homes))
			// Without readings of its own all courses by 1 to 4 are there.
			free := w
			free.Reads = nil
			for _, c := range coursesOf(free, i, f.Station) {
				for _, s := range w.Base.Stations {
					if x.IntN(20) > 0 || slices.Contains(homes, s.ID) {
						continue
					}
					others++
					if agrees(w, i, s.ID, c) {
						t.Fatal(w, i, c, s)
					}
				}
			}
		}
	}
	enough(t, "at home", own, 300)
	enough(t, "courses elsewhere", others, 1000)
}

// TestClocks is P7.11.
func TestClocks(t *testing.T) {
	x := newDice(29)
	whole, free := 0, 0
	for range 300 {
		w := x.week(small{ticks: 4, band: 1, rate: 2, zeros: 1, sheets: 2, marks: 2, reads: 1})
		if x.IntN(2) == 0 {
			w.Sheets, w.Reads = w.Sheets[:1], nil
			w.Sheets[0].Sheet.Trace = nil
		}
		f := w.Sheets[0]
		columns, e := weeks.Columns(w, 0)
		if e != api.OK {
			continue
		}
		whole++
		inWeek := append(slices.Clone(f.Marks), markAt(f.Sheet.Paper.Columns-1, 0, w.Base.Ticks))
		for c, l := range columns {
			s := must(clocks.Span(f.Sheet.Drum, inWeek, c))
			if !isWithin(l, []api.Span{s}) {
				t.Fatal(w, c, l, s)
			}
			if len(f.Sheet.Trace) == 0 {
				free++
				expect(t, l, e, []api.Span{s})
			}
		}
	}
	enough(t, "whole", whole, 100)
	enough(t, "without ink", free, 50)
}
