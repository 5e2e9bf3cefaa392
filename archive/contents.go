package archive

import (
	"aneroid/api"
	"aneroid/clocks"
	"aneroid/paper"
	"aneroid/pens"
	"aneroid/stations"
)

// A part is something that a note says.
type part interface {
	// isRight reports whether it is as the table of kinds says.
	isRight(b api.Base) bool
	// put says it in a note.
	put(n *api.Note)
}

// partsOf returns all that a note of its kind says, or nothing, if there is no such kind.
func partsOf(n api.Note) []part {
	ref, filed := reference(n.Ref), place{n.Station, n.Week}
	switch n.Kind {
	case api.NoteSheet:
		return []part{filed, chart(n.Sheet)}
	case api.NoteRead:
		return []part{reading(n.Read)}
	case api.NoteHeight:
		return []part{move{n.Station, n.Height}}
	case api.NoteFile:
		return []part{ref, filed}
	case api.NoteWithdraw:
		return []part{ref}
	case api.NoteCorrect:
		if correctsReading(n) {
			return []part{ref, reading(n.Read)}
		}
		// Any other correction says what a mark says.
		fallthrough
	case api.NoteMark:
		return []part{ref, mark(n.Mark)}
	}
	return nil
}

// correctsReading reports whether a correction is one of a reading, and not of a mark.
func correctsReading(n api.Note) bool { return n.Read.Station != 0 }

// isWellFormed reports whether a note is well-formed for a valid base.
func isWellFormed(b api.Base, n api.Note) bool {
	parts := partsOf(n)
	if len(parts) == 0 || !reference(nameOf(n)).isRight(b) || !between(n.Clock, 1, api.MaxClock) || !between(n.Day, 0, api.MaxWeek) {
		return false
	}
	said := api.Note{Clerk: n.Clerk, Num: n.Num, Clock: n.Clock, Day: n.Day, Kind: n.Kind}
	for _, p := range parts {
		if !p.isRight(b) {
			return false
		}
		p.put(&said)
	}
	// A field that no part has put is one that must be empty.
	return Same(n, said)
}

// A reference is the name of a note, which need not exist.
type reference api.Name

func (r reference) isRight(api.Base) bool {
	return between(r.Clerk, 1, api.MaxClerks) && between(r.Num, 1, api.MaxNotes)
}

func (r reference) put(n *api.Note) { n.Ref = api.Name(r) }

// A place is where a sheet can be filed.
type place struct{ station, week int }

func (p place) isRight(b api.Base) bool { return isStation(b, p.station) && isWeek(p.week) }

func (p place) put(n *api.Note) { n.Station, n.Week = p.station, p.week }

// A chart is a sheet as it was read.
type chart api.Sheet

func (c chart) isRight(api.Base) bool {
	if paper.CheckPaper(c.Paper) != api.OK || clocks.Check(c.Drum) != api.OK || pens.Check(c.Pen) != api.OK {
		return false
	}
	e, _ := paper.CheckTrace(c.Trace)
	return e == api.OK && areBlots(c.Blots, c.Paper.Columns) && columnsOf(c.Drum) == c.Paper.Columns
}

func (c chart) put(n *api.Note) { n.Sheet = api.Sheet(c) }

// A mark is a time mark on some sheet.
type mark api.Mark

func (m mark) isRight(api.Base) bool {
	return between(m.Column, 0, api.MaxColumns-1) && isSpan(m.Ticks, api.MaxTicks)
}

func (m mark) put(n *api.Note) { n.Mark = api.Mark(m) }

// A reading is one of a mercury barometer.
type reading api.Read

func (r reading) isRight(b api.Base) bool {
	return isStation(b, r.Station) && isWeek(r.Week) && between(r.Tick, 0, b.Ticks) && isSpan(r.Levels, api.MaxLevel)
}

func (r reading) put(n *api.Note) { n.Read = api.Read(r) }

// A move is a height of a station.
type move struct {
	station int
	height  api.Height
}

func (m move) isRight(b api.Base) bool {
	return isStation(b, m.station) && isWeek(m.height.Week) && isSpan(m.height.Metres, api.MaxHeight)
}

func (m move) put(n *api.Note) { n.Station, n.Height = m.station, m.height }

// isStation reports whether a valid base has a station with an ID.
func isStation(b api.Base, id int) bool {
	_, e := stations.StationOf(b.Stations, id)
	return e == api.OK
}

func isWeek(week int) bool { return between(week, 0, api.MaxWeek) }

func isSpan(s api.Span, greatest int) bool { return 0 <= s.Lo && s.Lo <= s.Hi && s.Hi <= greatest }

// areBlots reports whether a list is strictly increasing columns of a paper with so many of them.
func areBlots(l []int, columns int) bool {
	least := 0
	for _, column := range l {
		if !between(column, least, columns-1) {
			return false
		}
		least = column + 1
	}
	return true
}

func columnsOf(d api.Drum) int { return len(d.Rates) + 1 }
