package weeks_test

import (
	"slices"
	"testing"

	"aneroid/api"
	"aneroid/stations"
	"aneroid/weeks"
)

func mark(sheet, index int) api.Claim {
	return api.Claim{Kind: api.ClaimMark, Sheet: sheet, Index: index}
}

func reading(index int) api.Claim { return api.Claim{Kind: api.ClaimRead, Index: index} }

// TestExampleClaims are the examples of the chapter about claims.
func TestExampleClaims(t *testing.T) {
	w := clashing()
	claims, e := weeks.Claims(w)
	expect(t, claims, e, []api.Claim{{Kind: 2}})
	core, e := weeks.Core(w)
	expect(t, core, e, []api.Claim{{Kind: 2}})
	drops, e := weeks.Drops(w)
	expect(t, drops, e, [][]api.Claim{{{Kind: 2}}})
	left, e := weeks.Without(w, claims)
	expect(t, left, e, example())
}

// noted is a week with marks on both sheets and readings; of the names of one sheet there are as many as marks.
func noted() api.Week {
	w := example()
	w.Sheets[0].Marks = []api.Mark{markAt(0, 0, 0), markAt(1, 1, 2)}
	w.Sheets[0].Names = []api.Name{{Clerk: 1, Num: 4}, {Clerk: 2, Num: 3}}
	w.Sheets[1].Marks = []api.Mark{markAt(1, 2, 2)}
	w.Sheets[1].Names = []api.Name{{Clerk: 3, Num: 1}, {Clerk: 3, Num: 2}}
	w.Reads = []api.Read{read(2, 0, 0, 10001, 10009), read(1, 0, 2, 10000, 10005)}
	return w
}

func TestClaims(t *testing.T) {
	claims, e := weeks.Claims(noted())
	expect(t, claims, e, []api.Claim{mark(0, 0), mark(0, 1), mark(1, 0), reading(0), reading(1)})
	claims, e = weeks.Claims(example())
	expect(t, claims, e, nil)
}

func TestWithout(t *testing.T) {
	w, e := weeks.Without(noted(), nil)
	expect(t, w, e, noted())
	want := noted()
	want.Sheets[0].Marks, want.Sheets[0].Names = want.Sheets[0].Marks[:1], want.Sheets[0].Names[:1]
	want.Sheets[1].Marks = nil
	want.Reads = want.Reads[1:]
	w, e = weeks.Without(noted(), []api.Claim{mark(0, 1), mark(1, 0), reading(0)})
	expect(t, w, e, want)
	want = noted()
	want.Sheets[0].Marks, want.Sheets[0].Names, want.Sheets[1].Marks, want.Reads = nil, nil, nil, nil
	w, e = weeks.Without(noted(), must(weeks.Claims(noted())))
	expect(t, w, e, want)
}

// TestWithoutNoSet goes through lists that are no sets of claims.
func TestWithoutNoSet(t *testing.T) {
	for _, l := range [][]api.Claim{
		{mark(0, 2)}, {mark(0, -1)}, {mark(2, 0)}, {mark(-1, 0)}, {mark(1, 1)},
		{reading(2)}, {reading(-1)}, {{Kind: 2, Sheet: 1, Index: 0}}, {{Kind: 2, Sheet: -1, Index: 1}},
		{{Kind: 0}}, {{Kind: 3}}, {{Kind: -1 << 63, Sheet: 1<<63 - 1, Index: -1 << 63}},
		{mark(0, 0), mark(0, 0)}, {reading(0), reading(0)}, {mark(0, 1), mark(0, 0)}, {reading(0), mark(1, 0)},
		{mark(1, 0), mark(0, 1)}, {mark(0, 0), mark(0, 1), mark(1, 0), reading(0), reading(1), reading(1)},
	} {
		w, e := weeks.Without(noted(), l)
		expectError(t, w, e, api.ErrArg)
	}
}

// claimsOf returns the claims of a week by the words of the chapter.
func claimsOf(w api.Week) []api.Claim {
	var l []api.Claim
	for i, f := range w.Sheets {
		for k := range f.Marks {
			l = append(l, mark(i, k))
		}
	}
	for i := range w.Reads {
		l = append(l, reading(i))
	}
	return l
}

// without returns the week without a set of claims by the words of the chapter.
func without(w api.Week, l []api.Claim) api.Week {
	sheets := w.Sheets
	w.Sheets = nil
	for i, f := range sheets {
		marks, names := f.Marks, f.Names
		f.Marks = nil
		if len(marks) == len(names) {
			f.Names = nil
		}
		for k, m := range marks {
			if slices.Contains(l, mark(i, k)) {
				continue
			}
			f.Marks = append(f.Marks, m)
			if len(marks) == len(names) {
				f.Names = append(f.Names, names[k])
			}
		}
		w.Sheets = append(w.Sheets, f)
	}
	reads := w.Reads
	w.Reads = nil
	for i, r := range reads {
		if !slices.Contains(l, reading(i)) {
			w.Reads = append(w.Reads, r)
		}
	}
	return w
}

// setsOf returns all sets of claims, in order.
func setsOf(claims []api.Claim) [][]api.Claim {
	var all [][]api.Claim
	for bits := range 1 << len(claims) {
		var l []api.Claim
		for i, c := range claims {
			if bits>>i&1 == 1 {
				l = append(l, c)
			}
		}
		all = append(all, l)
	}
	at := func(c api.Claim) int { return slices.Index(claims, c) }
	slices.SortFunc(all, func(a, b []api.Claim) int {
		if len(a) != len(b) {
			return len(a) - len(b)
		}
		return slices.CompareFunc(a, b, func(c, d api.Claim) int { return at(c) - at(d) })
	})
	return all
}

// rest returns the claims that are not in a set.
func rest(claims, l []api.Claim) []api.Claim {
	return slices.DeleteFunc(slices.Clone(claims), func(c api.Claim) bool { return slices.Contains(l, c) })
}

// isWholeByTrying reports whether a small week has courses of the region.
func isWholeByTrying(w api.Week) bool { return modelOf(w).isWhole() }

// contrary returns a week with some narrow claims. Each of them, but for few, is true of some courses by itself; together many contradict.
func (d dice) contrary() api.Week {
	w := d.week(small{ticks: 3, band: 1, rate: 2, sheets: 2})
	m := modelOf(w)
	for range d.from(2, 6) {
		i := d.IntN(2)
		f := &w.Sheets[i]
		column, at := d.IntN(len(f.Sheet.Drum.Rates)+1), d.from(0, w.Base.Ticks)
		tick, level := d.from(0, w.Base.Ticks), f.Sheet.Paper.Low+d.from(0, lines)
		if l := m.alone[i]; len(l) > 0 && d.IntN(10) > 0 {
			c := l[d.IntN(len(l))]
			tick, level = c.Ticks[column], c.Levels[at]
		}
		if d.IntN(2) == 0 {
			f.Marks = append(f.Marks, markAt(column, tick, tick))
		} else {
			w.Reads = append(w.Reads, read(f.Station, w.Week, at, level, level))
		}
	}
	return w
}

// TestCoreAndDrops compares with all sets of claims, each with all courses.
func TestCoreAndDrops(t *testing.T) {
	sizes, dropped := map[int]int{}, map[int]int{}
	hopeless, several := 0, 0
	x := newDice(10)
	for range 1000 {
		w := x.contrary()
		claims := claimsOf(w)
		var core []api.Claim
		var drops [][]api.Claim
		isWhole, hasCore := isWholeByTrying(w), false
		for _, l := range setsOf(claims) {
			if !hasCore && !isWhole && !isWholeByTrying(without(w, rest(claims, l))) {
				core, hasCore = l, true
			}
			if (len(drops) == 0 || len(l) == len(drops[0])) && isWholeByTrying(without(w, l)) {
				drops = append(drops, l)
			}
		}
		got, e := weeks.Core(w)
		if isWhole {
			expectError(t, got, e, api.ErrNone)
		} else {
			expect(t, got, e, core)
			sizes[len(core)]++
		}
		sets, e := weeks.Drops(w)
		if len(drops) == 0 {
			expectError(t, sets, e, api.ErrClash)
			hopeless++
			continue
		}
		expect(t, sets, e, drops)
		dropped[len(drops[0])]++
		several += min(1, len(drops)-1)
	}
	for size, least := range []int{10, 50, 50} {
		enough(t, "cores", sizes[size], least)
	}
	for size, least := range []int{50, 50, 10} {
		enough(t, "drops", dropped[size], least)
	}
	enough(t, "hopeless", hopeless, 10)
	enough(t, "with several drops", several, 20)
}

// TestManyClaims has as many claims as are searched through, and one more.
func TestManyClaims(t *testing.T) {
	w := example()
	for i := range 4 {
		w.Sheets[0].Marks = append(w.Sheets[0].Marks, markAt(0, i%2, i%2))
		w.Sheets[1].Marks = append(w.Sheets[1].Marks, markAt(1, i%2+1, 2))
		w.Reads = append(w.Reads, read(2, 0, 1, 10002+i, 10002+i))
	}
	core, e := weeks.Core(w)
	expect(t, core, e, []api.Claim{mark(0, 0), mark(0, 1)})
	drops, e := weeks.Drops(w)
	if e != api.OK || len(drops[0]) != 5 || len(drops) != 5 {
		t.Error(drops, e)
	}
	for _, w := range []api.Week{w, example()} {
		for len(claimsOf(w)) <= api.MaxSmall {
			w.Reads = append(w.Reads, read(1, 0, 0, 0, api.MaxLevel))
		}
		core, e := weeks.Core(w)
		expectError(t, core, e, api.ErrLimit)
		drops, e := weeks.Drops(w)
		expectError(t, drops, e, api.ErrLimit)
	}
}

// TestThreeClaims has three readings of which each two can be true: the first one leaves the zeros 0 and 2, as two lines cross, the second one 0 and 1, the third one 1 and 2.
func TestThreeClaims(t *testing.T) {
	w := example()
	w.Sheets = []api.Filed{sheet(1, point(50, 500, 0), point(50, 502, 0), point(150, 510, 0), point(250, 520, 0))}
	s := &w.Sheets[0].Sheet
	s.Paper.Columns, s.Drum.Rates = 3, set(1, 1, 1, 1)
	s.Pen = api.Pen{Zero: span(0, 2), Rate: 20}
	w.Reads = []api.Read{read(2, 0, 1, 5, 5), read(1, 0, 0, 10002, 10002), read(1, 0, 1, 10010, 10011), read(1, 0, 2, 10021, 10022)}
	three := []api.Claim{reading(1), reading(2), reading(3)}
	core, e := weeks.Core(w)
	expect(t, core, e, three)
	drops, e := weeks.Drops(w)
	expect(t, drops, e, [][]api.Claim{three[:1], three[1:2], three[2:]})
	for i, want := range [][]int{{1}, {2}, {0}} {
		zeros, e := weeks.Zeros(without(w, three[i:i+1]), 0)
		expect(t, zeros, e, want)
	}
}

// TestNamesOfMarks has names that are not as many as marks: they stay as they are.
func TestNamesOfMarks(t *testing.T) {
	w := noted()
	w.Sheets[0].Names = nil
	left, e := weeks.Without(w, []api.Claim{mark(0, 0)})
	expect(t, left, e, without(w, []api.Claim{mark(0, 0)}))
	if len(left.Sheets[0].Marks) != 1 || len(left.Sheets[0].Names) != 0 || len(left.Sheets[1].Names) != 2 {
		t.Error(left.Sheets)
	}
}

// TestExampleHomes are the examples of the chapter about stations.
func TestExampleHomes(t *testing.T) {
	homes, e := weeks.Homes(example(), 0)
	expect(t, homes, e, []int{1, 2})
	misfiled, e := weeks.Misfiled(example())
	expect(t, misfiled, e, nil)
	homes, e = weeks.Homes(clashing(), 0)
	expect(t, homes, e, []int{2})
	misfiled, e = weeks.Misfiled(clashing())
	expect(t, misfiled, e, []int{0})
	// A sheet that is at home nowhere is not misfiled.
	w := clashing()
	w.Reads = append(w.Reads, read(2, 0, 1, 10010, 10020))
	homes, e = weeks.Homes(w, 0)
	expect(t, homes, e, nil)
	misfiled, e = weeks.Misfiled(w)
	expect(t, misfiled, e, nil)
}

// TestHomesByTrying compares Homes and Misfiled with all courses.
func TestHomesByTrying(t *testing.T) {
	x := newDice(11)
	counts := map[int]int{}
	away := 0
	s := usual
	s.reads = 2
	for w := range x.weeks(s, 1000) {
		var misfiled []int
		for i, f := range w.Sheets {
			var want []int
			for _, s := range w.Base.Stations {
				if len(coursesOf(w, i, s.ID)) > 0 {
					want = append(want, s.ID)
				}
			}
			homes, e := weeks.Homes(w, i)
			expect(t, homes, e, want)
			counts[len(want)]++
			if len(want) > 0 && !slices.Contains(want, f.Station) {
				misfiled = append(misfiled, i)
			}
		}
		got, e := weeks.Misfiled(w)
		expect(t, got, e, misfiled)
		away += len(misfiled)
	}
	for count, least := range []int{100, 50, 50} {
		enough(t, "homes", counts[count], least)
	}
	enough(t, "misfiled", away, 30)
}

// TestHighStations has readings that only heights make possible at one time: the region asks for the week's own ones.
func TestHighStations(t *testing.T) {
	w := example()
	w.Base.Stations[1].Heights = []api.Height{{Week: 0, Metres: span(0, 0)}, {Week: 3, Metres: span(100, 300)}}
	w.Sheets[1].Sheet.Trace[0].Y = 300
	for week, want := range []bool{false, false, false, true, true} {
		setWeek(&w, week)
		whole, e := weeks.Whole(w)
		expect(t, whole, e, want)
		seas := must(stations.Seas(9800, must(stations.Height(w.Base.Stations[1], week))))
		if want != has([]api.Span{seas}, 10003) {
			t.Error(week, seas)
		}
	}
}
