package archive_test

import (
	"fmt"
	"math/rand/v2"
	"slices"
	"testing"

	"aneroid/api"
	"aneroid/archive"
)

func span(lo, hi int) api.Span { return api.Span{Lo: lo, Hi: hi} }

func name(clerk, num int) api.Name { return api.Name{Clerk: clerk, Num: num} }

func nameOf(n api.Note) api.Name { return name(n.Clerk, n.Num) }

func markAt(column, lo, hi int) api.Mark { return api.Mark{Column: column, Ticks: span(lo, hi)} }

func read(station, week, tick, lo, hi int) api.Read {
	return api.Read{Station: station, Week: week, Tick: tick, Levels: span(lo, hi)}
}

func height(week, lo, hi int) api.Height { return api.Height{Week: week, Metres: span(lo, hi)} }

// exampleBase is the base of the chapter's examples.
func exampleBase() api.Base {
	return api.Base{
		Stations: []api.Station{{ID: 5, Heights: []api.Height{height(0, 100, 100)}}},
		Wind:     api.Wind{Fixed: 2, Each: 30},
		Term:     50,
		Ticks:    100,
		Clerks:   2,
	}
}

// base has three stations, of which the last one has been moved already.
func base() api.Base {
	b := exampleBase()
	b.Stations = append(b.Stations,
		api.Station{ID: 7, X: 3, Y: 4, Heights: []api.Height{height(0, 0, 10)}},
		api.Station{ID: 9, X: 6, Y: 8, Heights: []api.Height{height(0, 400, 400), height(2, 300, 500)}},
	)
	return b
}

// sheet is a valid sheet with so many columns.
func sheet(columns int) api.Sheet {
	s := api.Sheet{
		Paper: api.Paper{Pitch: 100, Height: 1000, Radius: 1000, Low: 9600, High: 10600, Columns: columns, Along: span(980, 1000), Across: span(1000, 1000)},
		Trace: []api.Point{{X: 10, Y: 300, Half: 5}, {X: 210, Y: 300, Half: 5}},
		Blots: []int{0, columns - 1},
		Drum:  api.Drum{Stops: []api.Stop{{Column: 0, Ticks: span(0, 3)}}},
		Pen:   api.Pen{Band: 1, Zero: span(-1, 1), Rate: 20},
	}
	for len(s.Drum.Rates) < columns-1 {
		s.Drum.Rates = append(s.Drum.Rates, span(2, 3))
	}
	return s
}

// A change changes a note that is being made.
type change func(n *api.Note)

// note returns a note of a clerk that was known at the clock of its number, and noted on its day.
func note(clerk, num, day, kind int, changes ...change) api.Note {
	n := api.Note{Clerk: clerk, Num: num, Clock: num, Day: day, Kind: kind}
	for _, c := range changes {
		c(&n)
	}
	return n
}

func on(clerk, num int) change { return func(n *api.Note) { n.Ref = name(clerk, num) } }

func under(station, week int) change {
	return func(n *api.Note) { n.Station, n.Week = station, week }
}

func charted(s api.Sheet) change { return func(n *api.Note) { n.Sheet = s } }

func marked(column, lo, hi int) change {
	return func(n *api.Note) { n.Mark = markAt(column, lo, hi) }
}

func showing(r api.Read) change { return func(n *api.Note) { n.Read = r } }

func raised(station int, h api.Height) change {
	return func(n *api.Note) { n.Station, n.Height = station, h }
}

func at(clock int) change { return func(n *api.Note) { n.Clock = clock } }

// example are the notes of the chapter's examples.
func example() []api.Note {
	return []api.Note{
		note(1, 1, 10, api.NoteSheet, charted(sheet(3)), under(5, 3)),
		note(1, 2, 11, api.NoteMark, on(1, 1), marked(0, 4, 6)),
		note(1, 3, 12, api.NoteRead, showing(read(5, 3, 20, 10000, 10010))),
		note(1, 4, 13, api.NoteCorrect, on(1, 2), marked(0, 5, 6)),
		note(1, 5, 14, api.NoteFile, on(1, 1), under(5, 4)),
	}
}

// kinds are well-formed notes of all kinds, with both corrections; numbers lie at the limits where that is possible.
func kinds() []api.Note {
	return []api.Note{
		note(1, 1, 0, api.NoteSheet, charted(sheet(3)), under(5, 0)),
		note(8, 400, 10000, api.NoteMark, on(8, 400), marked(199, 0, 400), at(1<<40)),
		note(1, 3, 0, api.NoteRead, showing(read(5, 10000, 100, 0, 12000))),
		note(1, 4, 0, api.NoteHeight, raised(5, height(10000, 0, 4000))),
		note(1, 5, 0, api.NoteFile, on(1, 1), under(5, 10000)),
		note(1, 6, 0, api.NoteCorrect, on(1, 1), marked(0, 0, 0)),
		note(1, 7, 0, api.NoteCorrect, on(1, 1), showing(read(5, 0, 0, 3, 3))),
		note(1, 8, 0, api.NoteWithdraw, on(1, 1)),
	}
}

// readsOf returns so many notes with readings, of one clerk after the other.
func readsOf(count int) []api.Note {
	var l []api.Note
	for i := range count {
		l = append(l, note(1+i/api.MaxNotes, 1+i%api.MaxNotes, 3, api.NoteRead, showing(read(5, 3, 20, 0, i))))
	}
	return l
}

// with returns a set with further notes.
func with(l []api.Note, notes ...api.Note) []api.Note {
	return sorted(slices.Concat(l, notes), func(a, b api.Note) bool { return lessName(nameOf(a), nameOf(b)) })
}

// without returns a set without a note.
func without(l []api.Note, n api.Name) []api.Note {
	return slices.DeleteFunc(slices.Clone(l), func(x api.Note) bool { return nameOf(x) == n })
}

func sorted[T any](l []T, less func(a, b T) bool) []T {
	l = slices.Clone(l)
	slices.SortFunc(l, func(a, b T) int {
		switch {
		case less(a, b):
			return -1
		case less(b, a):
			return 1
		}
		return 0
	})
	return l
}

func lessName(a, b api.Name) bool {
	return a.Clerk < b.Clerk || a.Clerk == b.Clerk && a.Num < b.Num
}

// same reports whether two values of one type are equal; nil and empty lists are.
func same[T any](a, b T) bool { return fmt.Sprint(a) == fmt.Sprint(b) }

// must returns the value of a call that must return no error.
func must[T any](value T, e api.Errno) T {
	if e != api.OK {
		panic(e)
	}
	return value
}

func expect[T any](t *testing.T, got T, e api.Errno, want T) {
	t.Helper()
	if e != api.OK || !same(got, want) {
		t.Error(got, e, "not", want)
	}
}

// expectError checks an error, and that there is nothing but a zero value beside it.
func expectError[T any](t *testing.T, got T, e, want api.Errno) {
	t.Helper()
	var zero T
	if e != want || !same(got, zero) {
		t.Error(got, e, "not", want)
	}
}

// enough fails a test that would have gone through too little.
func enough(t *testing.T, seen, least int) {
	t.Helper()
	if seen < least {
		t.Error("only", seen, "of at least", least)
	}
}

// mustSet fails a test whose notes are no set.
func mustSet(t *testing.T, b api.Base, l []api.Note) {
	t.Helper()
	if e, at := archive.CheckSet(b, l); e != api.OK {
		t.Fatal("no set", e, at)
	}
}

// dice gives the same numbers in every run.
type dice struct{ *rand.Rand }

func newDice(seed uint64) dice { return dice{rand.New(rand.NewPCG(seed, 6))} }

func (d dice) from(lo, hi int) int { return lo + d.IntN(hi-lo+1) }

func (d dice) station() int { return []int{5, 7, 9}[d.IntN(3)] }

func (d dice) mark() change { return marked(d.from(0, 3), d.from(0, 4), d.from(4, 8)) }

func (d dice) place() change { return under(d.station(), d.from(0, 2)) }

func (d dice) reading() api.Read {
	return read(d.station(), d.from(0, 2), d.from(0, 100), d.from(0, 100), d.from(100, 200))
}

// set returns a set of notes of few clerks on few days, in which many notes refer to others, right ones or not.
func (d dice) set(most int) []api.Note {
	names := map[api.Name]bool{}
	for range d.from(0, most) {
		names[name(d.from(1, 3), d.from(1, most))] = true
	}
	var all []api.Name
	for clerk := range 4 {
		for num := range most + 1 {
			if names[name(clerk, num)] {
				all = append(all, name(clerk, num))
			}
		}
	}
	var l []api.Note
	for _, n := range all {
		l = append(l, d.note(n, l, all))
	}
	return l
}

// note returns a note under a name. Mostly it refers to a note of a kind for which it is meant, if there is one.
func (d dice) note(n api.Name, l []api.Note, all []api.Name) api.Note {
	kind := []int{1, 1, 1, 2, 2, 2, 2, 3, 3, 4, 5, 5, 6, 6, 6, 6, 7}[d.IntN(17)]
	made := note(n.Clerk, n.Num, d.from(0, 3), kind, at(d.from(1, 3)))
	ref := all[d.IntN(len(all))]
	for _, x := range l {
		fits := kind == 2 && x.Kind == 1 || kind == 5 && x.Kind == 1 || kind == 6 && (x.Kind == 2 || x.Kind == 3) || kind == 7
		if fits && d.IntN(3) == 0 {
			ref = nameOf(x)
		}
	}
	d.say(&made, ref, slices.IndexFunc(l, func(x api.Note) bool { return nameOf(x) == ref && x.Kind == 3 }) >= 0)
	return made
}

// say writes what a note of its kind says; ofRead tells whether ref is a reading that is to be corrected.
func (d dice) say(n *api.Note, ref api.Name, ofRead bool) {
	switch n.Kind {
	case api.NoteSheet:
		charted(sheet(d.from(2, 4)))(n)
		d.place()(n)
	case api.NoteRead:
		n.Read = d.reading()
	case api.NoteHeight:
		raised(d.station(), height(d.from(0, 4), d.from(0, 9), d.from(9, 20)))(n)
	default:
		n.Ref = ref
	}
	switch n.Kind {
	case api.NoteFile:
		d.place()(n)
	case api.NoteMark:
		d.mark()(n)
	case api.NoteCorrect:
		if ofRead == (d.IntN(8) > 0) {
			n.Read = d.reading()
		} else {
			d.mark()(n)
		}
	}
}
