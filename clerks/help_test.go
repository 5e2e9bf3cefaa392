package clerks_test

import (
	"bytes"
	"fmt"
	"math/rand/v2"
	"slices"
	"testing"

	"aneroid/api"
	"aneroid/clerks"
)

func span(lo, hi int) api.Span { return api.Span{Lo: lo, Hi: hi} }

func name(clerk, num int) api.Name { return api.Name{Clerk: clerk, Num: num} }

func nameOf(n api.Note) api.Name { return name(n.Clerk, n.Num) }

// base has two stations.
func base() api.Base {
	return api.Base{
		Stations: []api.Station{
			{ID: 5, Heights: []api.Height{{Metres: span(100, 100)}}},
			{ID: 7, X: 3, Y: 4, Heights: []api.Height{{Metres: span(0, 10)}, {Week: 2, Metres: span(5, 20)}}},
		},
		Wind:   api.Wind{Fixed: 2, Each: 30},
		Term:   50,
		Ticks:  100,
		Clerks: 2,
	}
}

// badBases are bases that are not valid.
func badBases() []api.Base {
	bad := []api.Base{{}, base(), base(), base()}
	bad[1].Ticks = 0
	bad[2].Stations[1].ID = 5
	bad[3].Clerks = 9
	return bad
}

// sheet is a valid sheet with three columns and so many points.
func sheet(points int) api.Sheet {
	s := api.Sheet{
		Paper: api.Paper{Pitch: 100, Height: 1000, Radius: 2000, Low: 9600, High: 10600, Columns: 3, Along: span(980, 1000), Across: span(990, 1010)},
		Blots: []int{0, 2},
		Drum:  api.Drum{Rates: []api.Span{span(2, 3), span(4, 5)}, Stops: []api.Stop{{Column: 1, Ticks: span(0, 3)}}},
		Pen:   api.Pen{Band: 1, Zero: span(-1, 2), Rate: 20},
	}
	for i := range points {
		s.Trace = append(s.Trace, api.Point{X: 20000 + i%60, Y: 20000, Half: 100})
	}
	return s
}

// note is a note of the first clerk, with its number as its clock, and what further changes make of it.
func note(num, kind int, changes ...func(n *api.Note)) api.Note {
	n := api.Note{Clerk: 1, Num: num, Clock: num, Day: 3, Kind: kind}
	for _, change := range changes {
		change(&n)
	}
	return n
}

func by(clerk int) func(n *api.Note) { return func(n *api.Note) { n.Clerk = clerk } }

func at(clock int) func(n *api.Note) { return func(n *api.Note) { n.Clock = clock } }

func on(clerk, num int) func(n *api.Note) { return func(n *api.Note) { n.Ref = name(clerk, num) } }

func under(station, week int) func(n *api.Note) {
	return func(n *api.Note) { n.Station, n.Week = station, week }
}

func charted(s api.Sheet) func(n *api.Note) { return func(n *api.Note) { n.Sheet = s } }

func marked(column, lo, hi int) func(n *api.Note) {
	return func(n *api.Note) { n.Mark = api.Mark{Column: column, Ticks: span(lo, hi)} }
}

func showing(station, lo, hi int) func(n *api.Note) {
	return func(n *api.Note) { n.Read = api.Read{Station: station, Week: 1, Tick: 20, Levels: span(lo, hi)} }
}

func raised(station, week, lo, hi int) func(n *api.Note) {
	return func(n *api.Note) {
		n.Station, n.Height = station, api.Height{Week: week, Metres: span(lo, hi)}
	}
}

// read is a note of one block, with a reading.
func read(num int, changes ...func(n *api.Note)) api.Note {
	return note(num, api.NoteRead, append([]func(n *api.Note){showing(5, 9000, 9000+num)}, changes...)...)
}

// kinds are well-formed notes of all kinds, with both corrections.
func kinds() []api.Note {
	return []api.Note{
		note(1, api.NoteSheet, charted(sheet(2)), under(5, 3)),
		note(400, api.NoteMark, by(8), on(8, 400), marked(199, 0, 400), at(api.MaxClock)),
		read(3),
		note(4, api.NoteHeight, raised(7, 10000, 0, 4000)),
		note(5, api.NoteFile, on(1, 1), under(7, 10000)),
		note(6, api.NoteCorrect, on(1, 2), marked(0, 5, 6)),
		note(7, api.NoteCorrect, on(1, 3), showing(7, 0, 12000)),
		note(8, api.NoteWithdraw, on(2, 9)),
	}
}

// reads are so many notes of a clerk with readings, from the number 1 on.
func reads(clerk, count int) []api.Note {
	var l []api.Note
	for i := range count {
		l = append(l, read(i+1, by(clerk)))
	}
	return l
}

// sized returns a note whose record has so many blocks.
func sized(t *testing.T, blocks int) api.Note {
	t.Helper()
	if blocks == 1 {
		return read(1)
	}
	// Each point has eight bytes, all else less than two blocks.
	for points := 62 * (blocks - 2) / 8; points < 8*blocks; points++ {
		n := note(1, api.NoteSheet, charted(sheet(points)), under(5, 3))
		if blocksOf(n) == blocks {
			return n
		}
	}
	t.Fatal("no note has so many blocks", blocks)
	return api.Note{}
}

func bytesOf(n api.Note) []byte { return must(clerks.Encode(base(), n)) }

// blocksOf returns how many blocks the record of a note has.
func blocksOf(n api.Note) int { return (len(bytesOf(n)) + 61) / 62 }

// same reports whether two values of one type are equal; nil and empty lists are.
func same[T any](a, b T) bool { return fmt.Sprint(a) == fmt.Sprint(b) }

// must returns the value of a call that must return no error.
func must[T any](value T, e api.Errno) T {
	if e != api.OK {
		panic(e)
	}
	return value
}

func expect[T any](t *testing.T, got T, e api.Errno, want T) {
	t.Helper()
	if e != api.OK || !same(got, want) {
		t.Error(brief(got), e, "not", brief(want))
	}
}

// brief returns what is worth being printed of a value.
func brief(x any) string {
	s := fmt.Sprint(x)
	return s[:min(len(s), 400)]
}

// expectError checks an error, and that there is nothing but a zero value beside it.
func expectError[T any](t *testing.T, got T, e, want api.Errno) {
	t.Helper()
	var zero T
	if e != want || !same(got, zero) {
		t.Error(brief(got), e, "not", want)
	}
}

func expectErrno(t *testing.T, e, want api.Errno) {
	t.Helper()
	if e != want {
		t.Error(e, "not", want)
	}
}

// enough fails a test that would have gone through too little.
func enough(t *testing.T, seen, least int) {
	t.Helper()
	if seen < least {
		t.Error("only", seen, "of at least", least)
	}
}

// filled is a block of one byte, as often as it has room for it.
func filled(x byte) []byte { return bytes.Repeat([]byte{x}, 64) }

// record is a record of so many bytes, which differ from one seed to the next one.
func record(length, seed int) []byte {
	l := make([]byte, length)
	for i := range l {
		l[i] = byte(i*7 + seed)
	}
	return l
}

// ruin spoils a block on both halves of a pair, as the power can do it.
func ruin(t *testing.T, p *clerks.Pair, at int) {
	t.Helper()
	if p.Spoil(1, at) != api.OK || p.Fuse(0, 2) != api.OK || p.Write(0, at, filled(0)) != api.ErrDown {
		t.Fatal("not ruined", at)
	}
	p.Up()
}

// dice gives the same numbers in every run.
type dice struct{ *rand.Rand }

func newDice(seed uint64) dice { return dice{rand.New(rand.NewPCG(seed, 9))} }

func (d dice) from(lo, hi int) int { return lo + d.IntN(hi-lo+1) }

// note is a note that a clerk may do, which mostly refers to one that is known, if it refers to one at all. (Its clerk, number and clock are any.)
func (d dice) note(known []api.Note) api.Note {
	n := note(d.from(-1, 9), []int{1, 2, 2, 3, 3, 3, 4, 5, 6, 6, 7}[d.IntN(11)], by(d.from(-1, 9)), at(d.from(-1, 9)))
	n.Day = d.from(0, 3)
	ref := name(d.from(1, 3), d.from(1, 5))
	fits := func(x api.Note) bool {
		return (n.Kind == 2 || n.Kind == 5) && x.Kind == 1 || n.Kind == 6 && (x.Kind == 2 || x.Kind == 3) || n.Kind == 7
	}
	for _, x := range known {
		if fits(x) && d.IntN(3) > 0 {
			ref = nameOf(x)
		}
	}
	ofRead := slices.ContainsFunc(known, func(x api.Note) bool { return nameOf(x) == ref && x.Kind == api.NoteRead })
	d.say(&n, ref, ofRead)
	return n
}

// say writes what a note of its kind says; ofRead tells whether ref is a reading.
func (d dice) say(n *api.Note, ref api.Name, ofRead bool) {
	station := []int{5, 7}[d.IntN(2)]
	switch n.Kind {
	case api.NoteSheet:
		charted(sheet(d.from(0, 60)))(n)
	case api.NoteRead:
		showing(station, d.from(0, 9), d.from(9, 20))(n)
	case api.NoteHeight:
		raised(station, d.from(0, 4), d.from(0, 9), d.from(9, 20))(n)
	default:
		n.Ref = ref
	}
	switch {
	case n.Kind == api.NoteSheet, n.Kind == api.NoteFile:
		under(station, d.from(0, 9))(n)
	case n.Kind == api.NoteCorrect && ofRead:
		showing(station, d.from(0, 9), d.from(9, 20))(n)
	case n.Kind == api.NoteMark, n.Kind == api.NoteCorrect:
		marked(d.from(0, 3), d.from(0, 4), d.from(4, 8))(n)
	}
}

// fates are those of a crash: none, or some pairs of small numbers, at times without the last fate.
func (d dice) fates() []int {
	var l []int
	for range d.from(0, 4) {
		l = append(l, d.from(0, 12), d.from(0, 2))
	}
	if len(l) > 0 && d.IntN(3) == 0 {
		l = l[:len(l)-1]
	}
	return l
}
