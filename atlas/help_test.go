package atlas_test

import (
	"fmt"
	"math/rand/v2"
	"slices"
	"testing"

	"aneroid/api"
	"aneroid/archive"
	"aneroid/atlas"
	"aneroid/stations"
)

func span(lo, hi int) api.Span { return api.Span{Lo: lo, Hi: hi} }

// set returns spans by their ends.
func set(ends ...int) []api.Span {
	var l []api.Span
	for i := 0; i < len(ends); i += 2 {
		l = append(l, span(ends[i], ends[i+1]))
	}
	return l
}

func point(x, y, half int) api.Point { return api.Point{X: x, Y: y, Half: half} }

func markAt(column, lo, hi int) api.Mark { return api.Mark{Column: column, Ticks: span(lo, hi)} }

func read(station, week, tick, lo, hi int) api.Read {
	return api.Read{Station: station, Week: week, Tick: tick, Levels: span(lo, hi)}
}

func station(id, x, y, lo, hi int) api.Station {
	return api.Station{ID: id, X: x, Y: y, Heights: []api.Height{{Metres: span(lo, hi)}}}
}

// chart is the sheet of the chapter's examples with a trace.
func chart(trace ...api.Point) api.Sheet {
	whole := span(1000, 1000)
	return api.Sheet{
		Paper: api.Paper{Pitch: 100, Height: 1000, Low: 9500, High: 10500, Columns: 2, Along: whole, Across: whole},
		Trace: trace,
		Drum:  api.Drum{Rates: set(1, 2)},
		Pen:   api.Pen{Band: 1, Rate: 3},
	}
}

// base is that of the chapter's examples.
func base() api.Base {
	return api.Base{
		Stations: []api.Station{station(1, 0, 0, 0, 0), station(2, 3, 4, 0, 0)},
		Wind:     api.Wind{Fixed: 1},
		Ticks:    2,
		Term:     1,
		Clerks:   1,
	}
}

// register is one with the sheets of the chapter's examples, and with readings.
func register(reads ...api.Read) api.Register {
	return api.Register{
		Sheets: []api.Filed{
			{Name: api.Name{Clerk: 1, Num: 1}, Station: 1, Sheet: chart(point(50, 500, 0), point(150, 503, 0))},
			{Name: api.Name{Clerk: 1, Num: 2}, Station: 2, Sheet: chart(point(50, 505, 0))},
		},
		Reads:    reads,
		Stations: base().Stations,
	}
}

// falseRead is a reading that no course of the first sheet has.
func falseRead() api.Read { return read(1, 0, 1, 10010, 10020) }

// plain is the atlas of the chapter's examples.
func plain() api.Atlas { return must(atlas.Build(base(), register(), 0, 2)) }

// clashing is the same with the reading that contradicts, behind one that does not.
func clashing() api.Atlas {
	return must(atlas.Build(base(), register(read(2, 0, 0, 10005, 10007), falseRead()), 0, 2))
}

// hopeless is an atlas of a week that is not whole even without its reading: the wind would have to be stronger.
func hopeless() api.Atlas {
	r := register(falseRead())
	r.Sheets[1].Sheet.Trace[0].Y = 600
	return must(atlas.Build(base(), r, 0, 2))
}

// same reports whether two values of one type are equal; nil and empty lists are.
func same[T any](a, b T) bool { return fmt.Sprint(a) == fmt.Sprint(b) }

// must returns the value of a call that must return no error.
func must[T any](value T, e api.Errno) T {
	if e != api.OK {
		panic(e)
	}
	return value
}

func expect[T any](t *testing.T, got T, e api.Errno, want T) {
	t.Helper()
	if e != api.OK || !same(got, want) {
		t.Error(got, e, "not", want)
	}
}

// expectError checks an error, and that there is nothing but a zero value beside it.
func expectError[T any](t *testing.T, got T, e, want api.Errno) {
	t.Helper()
	var zero T
	if e != want || !same(got, zero) {
		t.Error(got, e, "not", want)
	}
}

func expectFaults(t *testing.T, what any, x api.Atlas, want ...api.Fault) {
	t.Helper()
	if got := atlas.Check(x); !slices.Equal(got, want) {
		t.Error(what, got, "not", want)
	}
}

// enough fails a test that would have gone through too little.
func enough(t *testing.T, what string, seen, least int) {
	t.Helper()
	if seen < least {
		t.Error(what, "only", seen, "of at least", least)
	}
}

func has(l []api.Span, n int) bool {
	return slices.ContainsFunc(l, func(s api.Span) bool { return s.Lo <= n && n <= s.Hi })
}

// copied returns an atlas that shares no memory with another one, which has numbers that can be encoded.
func copied(x api.Atlas) api.Atlas { return must(atlas.Decode(must(atlas.Encode(x)))) }

// bent returns a copy of an atlas that is changed.
func bent(x api.Atlas, bend func(x *api.Atlas)) api.Atlas {
	x = copied(x)
	bend(&x)
	return x
}

// dice gives the same numbers in every run.
type dice struct{ *rand.Rand }

func newDice(seed uint64) dice { return dice{rand.New(rand.NewPCG(seed, 10))} }

func (d dice) from(lo, hi int) int { return lo + d.IntN(hi-lo+1) }

func (d dice) one(of ...int) int { return of[d.IntN(len(of))] }

// A truth is what really was in a week, and notes of it.
type truth struct {
	base    api.Base
	week    int
	notes   []api.Note
	courses []api.Course // of all sheets
	heights []int        // of all stations
}

// size is how large a truth is.
type size struct{ stations, ticks, marks, reads int }

var usual = size{stations: 3, ticks: 8, marks: 2, reads: 2}

// truth returns what really was in a week, with true notes alone.
func (d dice) truth(week int, s size) truth {
	tr := truth{week: week}
	b := &tr.base
	b.Ticks = d.from(2, s.ticks)
	b.Term = d.from(0, b.Ticks)
	b.Clerks = 2
	seas := d.weather(b.Ticks)
	for i := range d.from(1, s.stations) {
		height := d.from(0, 800)
		tr.heights = append(tr.heights, height)
		low := max(0, height-d.from(0, 9))
		b.Stations = append(b.Stations, station(3*i+d.from(1, 3), d.from(0, 30), d.from(0, 30), low, height+d.from(0, 9)))
		f, c := d.drawn(seas, height)
		tr.courses = append(tr.courses, c)
		tr.note(api.Note{Kind: api.NoteSheet, Station: b.Stations[i].ID, Week: week, Sheet: f})
		for range d.from(0, s.marks) {
			tr.note(d.trueMark(tr, len(tr.notes)-1, i))
		}
	}
	for range d.from(0, s.reads) {
		tr.note(d.trueRead(tr))
	}
	b.Wind = api.Wind{Fixed: d.from(0, 3), Each: d.from(0, 20)}
	for !must(stations.Keeps(b.Wind, b.Stations, week, tr.terms())) {
		b.Wind.Fixed++
	}
	return tr
}

// note adds a note.
func (tr *truth) note(n api.Note) {
	n.Clerk, n.Num = 1, len(tr.notes)+1
	n.Clock, n.Day = n.Num, n.Num
	tr.notes = append(tr.notes, n)
}

// terms returns the real levels at the term.
func (tr *truth) terms() []int {
	var l []int
	for _, c := range tr.courses {
		l = append(l, c.Levels[tr.base.Term])
	}
	return l
}

// register returns the register of all notes.
func (tr *truth) register() api.Register { return must(archive.Fold(tr.base, tr.notes)) }

// trueMark returns a mark that is true of the sheet of a note, which is that of a station.
func (d dice) trueMark(tr truth, note, station int) api.Note {
	for tr.notes[note].Kind != api.NoteSheet {
		note--
	}
	column := d.IntN(len(tr.courses[station].Ticks))
	tick := tr.courses[station].Ticks[column]
	ticks := span(max(0, tick-d.from(0, 2)), tick+d.from(0, 2))
	return api.Note{Kind: api.NoteMark, Ref: api.Name{Clerk: 1, Num: note + 1}, Mark: api.Mark{Column: column, Ticks: ticks}}
}

func (d dice) trueRead(tr truth) api.Note {
	i, tick := d.IntN(len(tr.courses)), d.from(0, tr.base.Ticks)
	level := tr.courses[i].Levels[tick]
	return api.Note{Kind: api.NoteRead, Read: read(tr.base.Stations[i].ID, tr.week, tick, level-d.from(0, 3), level+d.from(0, 3))}
}

// falseNote returns a reading, or a mark on the first sheet, that may be false.
func (d dice) falseNote(tr truth) api.Note {
	if d.IntN(3) == 0 {
		tick := d.from(0, tr.base.Ticks)
		return api.Note{Kind: api.NoteMark, Ref: api.Name{Clerk: 1, Num: 1}, Mark: markAt(0, tick, tick)}
	}
	n := d.trueRead(tr)
	by := d.one(-40, -9, 7, 30)
	n.Read.Levels.Lo += by
	n.Read.Levels.Hi += by
	return n
}

// weather returns levels at the sea that rise, fall or stay.
func (d dice) weather(ticks int) []int {
	l := []int{d.from(9900, 10200)}
	for tick := range ticks {
		l = append(l, l[tick]+d.one(-4, -1, 0, 0, 1, 4))
	}
	return l
}

// drawn returns a sheet that a pen drew at some height, and what really was.
func (d dice) drawn(seas []int, height int) (api.Sheet, api.Course) {
	ticks := len(seas) - 1
	s := chart()
	s.Paper = api.Paper{Pitch: 100, Height: 10000, Low: 9000, High: 10500, Columns: d.from(2, ticks+1), Along: span(1000, 1000), Across: span(1000, 1000)}
	zero := d.from(-3, 3)
	s.Pen = api.Pen{Band: d.from(0, 2), Zero: span(zero-d.from(0, 1), zero+d.from(0, 1)), Rate: 5}
	c := api.Course{Zero: zero, Ticks: d.Perm(ticks + 1)[:s.Paper.Columns]}
	slices.Sort(c.Ticks)
	now := 0
	for tick, sea := range seas {
		// A level of about this one at the sea, which the stations do not have in common to the tenth.
		level := sea*8000/(8000+height) + d.from(0, 1)
		if tick == 0 {
			now = level - zero + d.from(-s.Pen.Band, s.Pen.Band)
		}
		now = min(max(now, level-zero-s.Pen.Band), level-zero+s.Pen.Band)
		c.Levels, c.Shown = append(c.Levels, level), append(c.Shown, now)
	}
	s.Drum.Rates = nil
	for i := range s.Paper.Columns - 1 {
		gap := c.Ticks[i+1] - c.Ticks[i]
		s.Drum.Rates = append(s.Drum.Rates, span(max(1, gap-d.from(0, 1)), gap+d.from(0, 1)))
	}
	for column, tick := range c.Ticks {
		if d.IntN(4) > 0 {
			// Each level has at least six heights.
			y := (c.Shown[tick] - s.Paper.Low) * s.Paper.Height / (s.Paper.High - s.Paper.Low)
			s.Trace = append(s.Trace, point(100*column+50, y+1, d.from(0, 20)))
		}
	}
	return s, c
}
