package weeks_test

import (
	"slices"
	"testing"

	"aneroid/api"
	"aneroid/paper"
	"aneroid/pens"
	"aneroid/tracks"
	"aneroid/weeks"
)

// TestExampleSheets are the examples of the chapter about a sheet.
func TestExampleSheets(t *testing.T) {
	w := example()
	if e := weeks.Check(w); e != api.OK {
		t.Error(e)
	}
	for i, want := range [][][]api.Span{{set(10000, 10000), set(10003, 10003)}, {set(10005, 10005), nil}} {
		ink, e := weeks.Inked(w, i)
		expect(t, ink, e, api.Inked{Columns: want})
	}
	zeros, e := weeks.Zeros(w, 0)
	expect(t, zeros, e, []int{0})
	for i, want := range [][][]api.Span{
		{set(9998, 10001), set(10001, 10004), set(10001, 10007)},
		{set(10003, 10007), set(10001, 10009), set(9998, 10012)},
	} {
		levels, e := weeks.Alone(w, i)
		expect(t, levels, e, want)
	}
	track := must(weeks.Track(w, 0, 0))
	for _, nodes := range track.Stages {
		if len(nodes) != 15 {
			t.Error(len(nodes))
		}
	}
}

// spoilers are changes by which a week is not valid any more.
func spoilers() map[string]func(w *api.Week) {
	return map[string]func(w *api.Week){
		"wind":           func(w *api.Week) { w.Base.Wind.Fixed = -1 },
		"wind each":      func(w *api.Week) { w.Base.Wind.Each = 10001 },
		"no ticks":       func(w *api.Week) { w.Base.Ticks, w.Base.Term, w.Reads = 0, 0, nil },
		"ticks":          func(w *api.Week) { w.Base.Ticks = api.MaxTicks + 1 },
		"term":           func(w *api.Week) { w.Base.Term = 3 },
		"term below":     func(w *api.Week) { w.Base.Term = -1 },
		"week":           func(w *api.Week) { setWeek(w, api.MaxWeek+1) },
		"week below":     func(w *api.Week) { setWeek(w, -1) },
		"sheets twice":   func(w *api.Week) { w.Sheets[1].Station = 1 },
		"sheets turned":  func(w *api.Week) { slices.Reverse(w.Sheets) },
		"too many":       func(w *api.Week) { w.Sheets = slices.Repeat(w.Sheets[:1], api.MaxSheets+1) },
		"no station":     func(w *api.Week) { w.Sheets[1].Station = 3 },
		"another week":   func(w *api.Week) { w.Sheets[1].Week++ },
		"paper":          func(w *api.Week) { w.Sheets[1].Sheet.Paper.Pitch = 0 },
		"trace":          func(w *api.Week) { w.Sheets[1].Sheet.Trace[0].Half = -1 },
		"long trace":     func(w *api.Week) { w.Sheets[1].Sheet.Trace = make([]api.Point, api.MaxPoints+1) },
		"blots":          func(w *api.Week) { w.Sheets[1].Sheet.Blots = []int{2} },
		"lines":          func(w *api.Week) { w.Sheets[1].Sheet.Trace = crossings(9) },
		"drum":           func(w *api.Week) { w.Sheets[1].Sheet.Drum.Rates[0].Lo = 0 },
		"columns":        func(w *api.Week) { w.Sheets[1].Sheet.Paper.Columns = 3 },
		"no drum":        func(w *api.Week) { w.Sheets[1].Sheet.Paper.Columns, w.Sheets[1].Sheet.Drum.Rates = 1, nil },
		"pen":            func(w *api.Week) { w.Sheets[1].Sheet.Pen.Band = api.MaxBand + 1 },
		"zero":           func(w *api.Week) { w.Sheets[1].Sheet.Pen.Zero = span(1, 0) },
		"mark":           func(w *api.Week) { w.Sheets[1].Marks = []api.Mark{markAt(2, 0, 1)} },
		"mark's ticks":   func(w *api.Week) { w.Sheets[1].Marks = []api.Mark{markAt(0, 1, 0)} },
		"many marks":     func(w *api.Week) { w.Sheets[1].Marks = make([]api.Mark, api.MaxMarks+1) },
		"many readings":  func(w *api.Week) { w.Reads = slices.Repeat(w.Reads, api.MaxReads+1) },
		"read nowhere":   func(w *api.Week) { w.Reads[0].Station = 3 },
		"read otherwhen": func(w *api.Week) { w.Reads[0].Week = 1 },
		"read late":      func(w *api.Week) { w.Reads[0].Tick = 3 },
		"read early":     func(w *api.Week) { w.Reads[0].Tick = -1 },
		"read low":       func(w *api.Week) { w.Reads[0].Levels.Lo = -1 },
		"read high":      func(w *api.Week) { w.Reads[0].Levels.Hi = api.MaxLevel + 1 },
		"read turned":    func(w *api.Week) { w.Reads[0].Levels = span(5, 4) },
	}
}

func setWeek(w *api.Week, n int) {
	w.Week = n
	for i := range w.Sheets {
		w.Sheets[i].Week = n
	}
	for i := range w.Reads {
		w.Reads[i].Week = n
	}
}

// crossings are points of so many lines in the first column.
func crossings(count int) []api.Point {
	var l []api.Point
	for i := range count {
		l = append(l, point(50, 10+100*i, 0))
	}
	return l
}

// stationFaults are stations that are not valid, with the errors of stations.Check.
func stationFaults() map[api.Errno][]api.Station {
	return map[api.Errno][]api.Station{
		api.ErrLimit:   make([]api.Station, api.MaxStations+1),
		api.ErrStation: {station(2, 0, 0, 0, 0), station(1, 0, 0, 0, 0)},
		api.ErrHeight:  {station(1, 0, 0, 3, 2), station(2, 0, 0, 0, 0)},
	}
}

// TestCheck goes through all that makes a week not valid, and through what lies at the limits.
func TestCheck(t *testing.T) {
	for name, spoil := range spoilers() {
		w := clashing()
		spoil(&w)
		if e := weeks.Check(w); e != api.ErrWeek {
			t.Error(name, e)
		}
		// What is wrong with stations comes first.
		for want, l := range stationFaults() {
			w.Base.Stations = l
			if e := weeks.Check(w); e != want {
				t.Error(name, e, want)
			}
		}
	}
	for i, change := range []func(w *api.Week){
		func(w *api.Week) { *w = api.Week{Base: api.Base{Ticks: 1}} },
		func(w *api.Week) { w.Base.Ticks, w.Base.Term = api.MaxTicks, api.MaxTicks },
		func(w *api.Week) { w.Base.Term, w.Reads[0].Tick = 2, 2 },
		func(w *api.Week) { w.Base.Term, w.Reads[0].Tick = 0, 0 },
		func(w *api.Week) { w.Base.Clerks = -5 },
		func(w *api.Week) { setWeek(w, api.MaxWeek) },
		func(w *api.Week) { w.Sheets[1].Name, w.Sheets[1].Names = api.Name{Clerk: -1}, make([]api.Name, 99) },
		func(w *api.Week) { w.Sheets[1].Sheet.Trace = crossings(8) },
		func(w *api.Week) { w.Sheets[1].Marks = make([]api.Mark, api.MaxMarks) },
		func(w *api.Week) { w.Reads = slices.Repeat(w.Reads, api.MaxReads) },
		func(w *api.Week) { w.Reads[0].Station, w.Sheets = 1, w.Sheets[1:] },
		func(w *api.Week) { w.Reads[0].Levels = span(0, api.MaxLevel) },
	} {
		w := clashing()
		change(&w)
		if e := weeks.Check(w); e != api.OK {
			t.Error(i, e)
		}
	}
}

// A node is a state with an offset.
type node struct{ column, ago, offset int }

// nodesOf returns the nodes of a stage in order, by the words of the chapter.
func nodesOf(f api.Filed, ticks int) []node {
	gaps, band := gapsOf(f.Sheet.Drum), f.Sheet.Pen.Band
	var l []node
	add := func(column, ago int) {
		for j := -band; j <= band; j++ {
			l = append(l, node{column, ago, j})
		}
	}
	add(-1, 0)
	for c, gap := range gaps {
		for ago := 0; ago <= min(gap.Hi, ticks)-1; ago++ {
			add(c, ago)
		}
	}
	add(len(gaps), 0)
	add(len(gaps), 1)
	return l
}

// allowedOf returns the values that are allowed in a node, one by one from 0 to some greatest one.
func allowedOf(w api.Week, sheet, zero, tick int, n node) []api.Span {
	f := w.Sheets[sheet]
	ink := must(paper.Ink(f.Sheet.Paper, f.Sheet.Trace, f.Sheet.Blots))
	last := len(f.Sheet.Drum.Rates)
	first := n.column < 0 || n.column == 0 && n.ago == 0
	if tick == 0 && !first || tick == w.Base.Ticks && n.column < last {
		return nil
	}
	here := n.column >= 0 && n.ago == 0
	for _, m := range f.Marks {
		if here && m.Column == n.column && !has([]api.Span{m.Ticks}, tick) {
			return nil
		}
	}
	var l []int
	for d := range api.MaxLevel + 1 {
		if here && len(ink.Columns[n.column]) > 0 && !has(ink.Columns[n.column], d) {
			continue
		}
		if isReal(w, f.Station, tick, d+n.offset+zero) {
			l = append(l, d)
		}
	}
	return setOf(l)
}

// nextOf returns the edges of a node among the nodes of the next stage.
func nextOf(f api.Filed, nodes []node, n node) []api.Edge {
	gaps, band := gapsOf(f.Sheet.Drum), f.Sheet.Pen.Band
	var edges []api.Edge
	lead := func(column, ago int) {
		to := slices.Index(nodes, node{column, ago, -band})
		if to < 0 {
			return
		}
		for _, e := range must(pens.Moves(f.Sheet.Pen, n.offset)) {
			edges = append(edges, api.Edge{To: to + e.To, Change: e.Change})
		}
	}
	switch {
	case n.column < 0:
		lead(-1, 0)
		lead(0, 0)
	case n.column == len(gaps):
		lead(n.column, 1)
	default:
		lead(n.column, n.ago+1)
		if has(gaps[n.column:n.column+1], n.ago+1) {
			lead(n.column+1, 0)
		}
	}
	return edges
}

// TestTrack compares with the words of the chapter.
func TestTrack(t *testing.T) {
	x := newDice(1)
	s := small{ticks: 4, band: 2, rate: 4, zeros: 2, sheets: 1, marks: 2, reads: 2}
	for w := range x.weeks(s, 40) {
		f := w.Sheets[0]
		zero := x.from(f.Sheet.Pen.Zero.Lo, f.Sheet.Pen.Zero.Hi)
		nodes := nodesOf(f, w.Base.Ticks)
		var want api.Track
		for tick := range w.Base.Ticks + 1 {
			var stage []api.Node
			for _, n := range nodes {
				made := api.Node{Allowed: allowedOf(w, 0, zero, tick, n)}
				if tick < w.Base.Ticks {
					made.Next = nextOf(f, nodes, n)
				}
				stage = append(stage, made)
			}
			want.Stages = append(want.Stages, stage)
		}
		got, e := weeks.Track(w, 0, zero)
		expect(t, got, e, want)
		if e := tracks.Check(got); e != api.OK {
			t.Error(e)
		}
	}
}

// TestLongGaps has gaps that are longer than the week.
func TestLongGaps(t *testing.T) {
	w := example()
	w.Sheets[0].Sheet.Drum = api.Drum{Rates: set(1, 40), Stops: []api.Stop{{Column: 0, Ticks: span(0, 400)}}}
	if l := must(weeks.Track(w, 0, 0)).Stages[0]; len(l) != 15 {
		t.Error(len(l))
	}
	w.Sheets[0].Sheet.Drum.Rates = set(3, 40)
	if zeros, e := weeks.Zeros(w, 0); e != api.OK || len(zeros) > 0 {
		t.Error(zeros, e)
	}
	if homes, e := weeks.Homes(w, 0); e != api.OK || len(homes) > 0 {
		t.Error(homes, e)
	}
}

// TestSheetsByTrying compares Inked, Zeros and Alone with all courses.
func TestSheetsByTrying(t *testing.T) {
	x := newDice(2)
	s := small{ticks: 4, band: 2, rate: 2, zeros: 2, sheets: 1, marks: 1, reads: 1}
	whole, parted, fewer := 0, 0, 0
	for w := range x.weeks(s, 2000) {
		f := w.Sheets[0]
		ink, e := weeks.Inked(w, 0)
		expect(t, ink, e, must(paper.Ink(f.Sheet.Paper, f.Sheet.Trace, f.Sheet.Blots)))
		all := coursesOf(w, 0, f.Station)
		var want []int
		for zero := f.Sheet.Pen.Zero.Lo; zero <= f.Sheet.Pen.Zero.Hi; zero++ {
			if slices.ContainsFunc(all, func(c api.Course) bool { return c.Zero == zero }) {
				want = append(want, zero)
			}
		}
		zeros, e := weeks.Zeros(w, 0)
		expect(t, zeros, e, want)
		levels, e := weeks.Alone(w, 0)
		if len(all) == 0 {
			expectError(t, levels, e, api.ErrClash)
			continue
		}
		expect(t, levels, e, levelsOf(w, all))
		whole++
		fewer += min(1, f.Sheet.Pen.Zero.Hi-f.Sheet.Pen.Zero.Lo+1-len(zeros))
		if slices.ContainsFunc(levels, func(l []api.Span) bool { return len(l) > 1 }) {
			parted++
		}
	}
	enough(t, "whole", whole, 500)
	enough(t, "with sets of several spans", parted, 20)
	enough(t, "with zeros that do not agree", fewer, 20)
}
