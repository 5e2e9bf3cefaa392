package weeks_test

import (
	"testing"

	"aneroid/api"
	"aneroid/weeks"
)

// TestExampleFronts are the examples of the chapter about fronts.
func TestExampleFronts(t *testing.T) {
	w := example()
	for tick := range 2 {
		chance, e := weeks.Front(w, 0, tick, 2)
		expect(t, chance, e, api.FrontMay)
	}
	chance, e := weeks.Surely(w, 0, 0, 2, 2)
	expect(t, chance, e, api.FrontCertain)
	chance, e = weeks.Surely(w, 0, 0, 2, 3)
	expect(t, chance, e, api.FrontMay)
	fronts, e := weeks.Fronts(w, 0, 4)
	expect(t, fronts, e, []int{api.FrontNever, api.FrontNever})
	pairs, e := weeks.Passages(w, 0, 1, 4)
	expect(t, pairs, e, nil)
}

// rises are the rises that matter in small weeks.
var rises = []int{-5, -4, -3, -2, -1, 1, 2, 3, 4, 5}

// TestFrontsByTrying compares Front, Fronts and Surely with all courses of the region.
func TestFrontsByTrying(t *testing.T) {
	x := newDice(8)
	seen, surely := map[int]int{}, map[int]int{}
	for band := range 3 {
		s := small{ticks: 3, band: band, rate: 4, sheets: 2, marks: 1, reads: 3}
		for w := range x.weeks(s, 700) {
			checkFronts(t, w, x, seen, surely)
		}
	}
	for chance, least := range map[int]int{api.FrontNever: 300, api.FrontMay: 300, api.FrontCertain: 30} {
		enough(t, "chances", seen[chance], least)
		enough(t, "chances within ticks", surely[chance], least)
	}
}

// checkFronts compares the chances of a week with those of all courses, and counts them.
func checkFronts(t *testing.T, w api.Week, x dice, seen, surely map[int]int) {
	t.Helper()
	m := modelOf(w)
	for i := range w.Sheets {
		rise := x.one(rises...)
		fronts, e := weeks.Fronts(w, i, rise)
		if !m.isWhole() {
			expectError(t, fronts, e, api.ErrClash)
			continue
		}
		var want []int
		for tick := range w.Base.Ticks {
			want = append(want, chanceOf(m.region[i], func(c api.Course) bool { return isFront(c, tick, rise) }))
			seen[want[tick]]++
			chance, e := weeks.Front(w, i, tick, rise)
			expect(t, chance, e, want[tick])
		}
		expect(t, fronts, e, want)
		for from := range w.Base.Ticks {
			for to := from + 1; to <= w.Base.Ticks; to++ {
				want := chanceOf(m.region[i], func(c api.Course) bool { return isFrontWithin(c, from, to, rise) })
				chance, e := weeks.Surely(w, i, from, to, rise)
				expect(t, chance, e, want)
				surely[want]++
			}
		}
	}
}

// TestPassages compares with all courses of the region.
func TestPassages(t *testing.T) {
	x := newDice(9)
	pairs, fewer := 0, 0
	for _, sheets := range []int{2, 3} {
		s := usual
		s.sheets, s.rate = sheets, 4
		for w := range x.weeks(s, 1500) {
			m := modelOf(w)
			a := x.IntN(sheets)
			b := (a + 1 + x.IntN(sheets-1)) % sheets
			rise := x.one(rises...)
			got, e := weeks.Passages(w, a, b, rise)
			if !m.isWhole() {
				expectError(t, got, e, api.ErrClash)
				continue
			}
			expect(t, got, e, m.passagesOf(a, b, rise))
			pairs += len(got)
			fewer += len(possible(t, w, a, rise))*len(possible(t, w, b, rise)) - len(got)
		}
	}
	enough(t, "pairs", pairs, 500)
	enough(t, "pairs that the wind does not allow", fewer, 10)
}

// possible returns the ticks at which a front may be.
func possible(t *testing.T, w api.Week, sheet, rise int) []int {
	t.Helper()
	var ticks []int
	for tick, chance := range must(weeks.Fronts(w, sheet, rise)) {
		if chance != api.FrontNever {
			ticks = append(ticks, tick)
		}
	}
	return ticks
}

// TestRiseLimits has the greatest rises that there may be.
func TestRiseLimits(t *testing.T) {
	w := example()
	w.Base.Wind.Fixed = 3
	for i := range w.Sheets {
		w.Sheets[i].Sheet.Pen.Rate = 400
		w.Sheets[i].Sheet.Trace = w.Sheets[i].Sheet.Trace[:1]
	}
	for _, rise := range []int{-api.MaxFront, api.MaxFront} {
		fronts, e := weeks.Fronts(w, 0, rise)
		expect(t, fronts, e, []int{api.FrontMay, api.FrontMay})
		pairs, e := weeks.Passages(w, 0, 1, rise)
		expect(t, pairs, e, [][]int{{0, 0}, {0, 1}, {1, 0}, {1, 1}})
	}
	w.Sheets[0].Sheet.Pen.Rate = 399
	fronts, e := weeks.Fronts(w, 0, api.MaxFront)
	expect(t, fronts, e, []int{api.FrontNever, api.FrontNever})
}
