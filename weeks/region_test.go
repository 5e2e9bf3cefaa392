package weeks_test

import (
	"slices"
	"testing"

	"aneroid/api"
	"aneroid/weeks"
)

// TestExampleRegion are the examples of the chapter about the region.
func TestExampleRegion(t *testing.T) {
	w := example()
	terms, e := weeks.Terms(w)
	expect(t, terms, e, [][]api.Span{set(10001, 10004), set(10001, 10005)})
	levels, e := weeks.Levels(w, 1)
	expect(t, levels, e, [][]api.Span{set(10004, 10007), set(10001, 10005), set(9998, 10008)})
	level, e := weeks.Level(w, 1, 2)
	expect(t, level, e, set(9998, 10008))
	columns, e := weeks.Columns(w, 0)
	expect(t, columns, e, [][]api.Span{set(0, 1), set(1, 2)})
	whole, e := weeks.Whole(w)
	expect(t, whole, e, true)
	whole, e = weeks.Whole(clashing())
	expect(t, whole, e, false)
}

// TestNoSheets has weeks without sheets: the empty list is courses of the region.
func TestNoSheets(t *testing.T) {
	w := api.Week{Base: api.Base{Ticks: 1, Stations: []api.Station{station(7, 0, 0, 0, 0)}}}
	w.Reads = []api.Read{read(7, 0, 0, 5, 5), read(7, 0, 0, 6, 6)}
	if e := weeks.Keeps(w, nil); e != api.OK {
		t.Error(e)
	}
	if e := weeks.Keeps(w, make([]api.Course, 1)); e != api.ErrClash {
		t.Error(e)
	}
	whole, e := weeks.Whole(w)
	expect(t, whole, e, true)
	terms, e := weeks.Terms(w)
	expect(t, terms, e, nil)
	misfiled, e := weeks.Misfiled(w)
	expect(t, misfiled, e, nil)
	core, e := weeks.Core(w)
	expectError(t, core, e, api.ErrNone)
	drops, e := weeks.Drops(w)
	expect(t, drops, e, [][]api.Claim{nil})
	levels, e := weeks.Levels(w, 0)
	expectError(t, levels, e, api.ErrArg)
}

// TestRegionByTrying compares Whole, Terms, Levels, Level and Columns with all courses of the region.
func TestRegionByTrying(t *testing.T) {
	x := newDice(3)
	whole, narrowed, clashes := 0, 0, 0
	for _, sheets := range []int{1, 2, 3} {
		s := usual
		s.sheets = sheets
		for w := range x.weeks(s, 1500) {
			m := modelOf(w)
			got, e := weeks.Whole(w)
			expect(t, got, e, m.isWhole())
			terms, e := weeks.Terms(w)
			if !m.isWhole() {
				expectError(t, terms, e, api.ErrClash)
				if !slices.ContainsFunc(m.alone, func(l []api.Course) bool { return len(l) == 0 }) {
					clashes++
				}
				continue
			}
			whole++
			for i, f := range w.Sheets {
				expect(t, terms[i], e, setOf(termsOf(w, m.region[i])))
				narrowed += min(1, len(m.alone[i])-len(m.region[i]))
				want := levelsOf(w, m.region[i])
				levels, e := weeks.Levels(w, i)
				expect(t, levels, e, want)
				tick := x.from(0, w.Base.Ticks)
				level, e := weeks.Level(w, i, tick)
				expect(t, level, e, want[tick])
				columns, e := weeks.Columns(w, i)
				expect(t, columns, e, columnsOf(f, m.region[i]))
			}
		}
	}
	enough(t, "whole", whole, 500)
	enough(t, "narrowed by neighbours", narrowed, 200)
	enough(t, "clashes of neighbours", clashes, 100)
}

// TestCourses is W12: courses for each level that is told, and for no other one.
func TestCourses(t *testing.T) {
	x := newDice(4)
	found := 0
	for w := range x.weeks(usual, 1000) {
		for i, f := range w.Sheets {
			levels, e := weeks.Levels(w, i)
			if e != api.OK {
				l, e := weeks.Courses(w, i, 0, f.Sheet.Paper.Low)
				expectError(t, l, e, api.ErrClash)
				continue
			}
			for tick, l := range levels {
				found += checkCourses(t, w, i, tick, l)
			}
		}
	}
	enough(t, "levels", found, 5000)
}

// checkCourses looks for courses with each level at a tick, and around the levels that are told; it returns how many levels there were.
func checkCourses(t *testing.T, w api.Week, sheet, tick int, told []api.Span) int {
	t.Helper()
	for level := told[0].Lo - 2; level <= told[len(told)-1].Hi+2; level++ {
		l, e := weeks.Courses(w, sheet, tick, level)
		if !has(told, level) {
			expectError(t, l, e, api.ErrNone)
			continue
		}
		if e != api.OK || weeks.Keeps(w, l) != api.OK || l[sheet].Levels[tick] != level {
			t.Error(w, sheet, tick, level, l, e)
		}
	}
	for _, level := range []int{-1, api.MaxLevel + 1, -1 << 63, 1<<63 - 1} {
		l, e := weeks.Courses(w, sheet, tick, level)
		expectError(t, l, e, api.ErrNone)
	}
	return len(numbers(told))
}

// keeps is W11 by the words of the chapter.
func keeps(m model, l []api.Course) bool {
	if len(l) != len(m.Sheets) {
		return false
	}
	var terms []int
	for i, c := range l {
		if !agrees(m.Week, i, m.Sheets[i].Station, c) {
			return false
		}
		terms = append(terms, c.Levels[m.Base.Term])
	}
	return slices.ContainsFunc(m.lists, func(l []int) bool { return slices.Equal(l, terms) })
}

// changed returns a list of courses with one number that is another one, or with one more or less.
func (d dice) changed(l []api.Course) []api.Course {
	l = slices.Clone(l)
	i := d.IntN(len(l))
	c := &l[i]
	list := []*[]int{&c.Ticks, &c.Shown, &c.Levels}[d.IntN(3)]
	*list = slices.Clone(*list)
	switch d.IntN(12) {
	case 0:
		c.Zero += d.one(-1, 1)
	case 1:
		*list = append(*list, (*list)[0])
	case 2:
		*list = (*list)[1:]
	case 3:
		return slices.Delete(l, i, i+1)
	case 4:
		(*list)[d.IntN(len(*list))] = d.one(-1<<63, 1<<63-1, -1, api.MaxLevel+1)
	case 5, 6, 7:
		c.Shown, c.Levels = slices.Clone(c.Shown), slices.Clone(c.Levels)
		by, from := d.one(-1, 1), d.IntN(len(c.Shown))
		for k := from; k < len(c.Shown); k++ {
			c.Shown[k] += by
			c.Levels[k] += by
		}
	default:
		(*list)[d.IntN(len(*list))] += d.one(-1, 1)
	}
	return l
}

// TestKeeps compares with the words of the chapter, for courses of the region and for such that are nearly some.
func TestKeeps(t *testing.T) {
	x := newDice(5)
	taken, refused := 0, 0
	for w := range x.weeks(usual, 1500) {
		m := modelOf(w)
		if !m.isWhole() {
			continue
		}
		for range 30 {
			l := m.list(x)
			if e := weeks.Keeps(w, l); e != api.OK {
				t.Fatal(w, l, e)
			}
			l = x.changed(l)
			want := api.ErrClash
			if keeps(m, l) {
				want = api.OK
				taken++
			} else {
				refused++
			}
			if e := weeks.Keeps(w, l); e != want {
				t.Fatal(w, l, e)
			}
		}
	}
	enough(t, "taken", taken, 300)
	enough(t, "refused", refused, 2000)
}

// TestKeepsWind has courses that agree, each with its sheet, but not at one time.
func TestKeepsWind(t *testing.T) {
	x := newDice(6)
	windy := 0
	for w := range x.weeks(usual, 300) {
		m := modelOf(w)
		if len(m.alone[0]) == 0 || len(m.alone[1]) == 0 {
			continue
		}
		for range 20 {
			l := []api.Course{m.alone[0][x.IntN(len(m.alone[0]))], m.alone[1][x.IntN(len(m.alone[1]))]}
			want := api.OK
			if !keeps(m, l) {
				want = api.ErrClash
				windy++
			}
			if e := weeks.Keeps(w, l); e != want {
				t.Fatal(w, l, e)
			}
		}
	}
	enough(t, "windy", windy, 500)
}

// TestTermsOfMany compares Terms of many sheets, whose levels have gaps at the term, with all lists of levels.
func TestTermsOfMany(t *testing.T) {
	x := newDice(7)
	whole, gaps, lost := 0, 0, 0
	for range 1000 {
		w := x.quiet(4)
		m := modelOf(w)
		terms, e := weeks.Terms(w)
		if !m.isWhole() {
			expectError(t, terms, e, api.ErrClash)
			continue
		}
		whole++
		for i := range w.Sheets {
			want := setOf(termsOf(w, m.region[i]))
			expect(t, terms[i], e, want)
			gaps += min(1, len(want)-1)
			lost += min(1, len(setOf(termsOf(w, m.alone[i])))-len(want))
			for _, level := range numbers(setOf(termsOf(w, m.alone[i]))) {
				l, e := weeks.Courses(w, i, 0, level)
				if !has(want, level) {
					expectError(t, l, e, api.ErrNone)
				} else if e != api.OK || weeks.Keeps(w, l) != api.OK || l[i].Levels[0] != level {
					t.Error(w, i, level, l, e)
				}
			}
		}
	}
	enough(t, "whole", whole, 100)
	enough(t, "with gaps", gaps, 100)
	enough(t, "with spans that are lost", lost, 50)
}

// quiet returns a week in which nothing moves, and each sheet shows some single levels.
func (d dice) quiet(sheets int) api.Week {
	w := api.Week{Base: api.Base{Ticks: 1, Wind: api.Wind{Fixed: d.from(0, 2), Each: d.one(0, 20)}}}
	for i := range sheets {
		f := sheet(i + 1)
		f.Sheet.Paper.Low, f.Sheet.Paper.High = 0, 30
		f.Sheet.Pen = api.Pen{}
		for len(f.Sheet.Trace) < d.from(2, 5) {
			f.Sheet.Trace = append(f.Sheet.Trace, point(50, 17+34*d.from(0, 14), 0))
		}
		s := station(i+1, d.from(0, 9), d.from(0, 9), 0, 0)
		s.Heights[0].Metres = d.span(0, 4000, 300)
		w.Base.Stations = append(w.Base.Stations, s)
		w.Sheets = append(w.Sheets, f)
	}
	return w
}
