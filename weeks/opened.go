package weeks

import (
	"aneroid/api"
	"aneroid/clocks"
	"aneroid/paper"
	"aneroid/pens"
	"aneroid/stations"
)

// opened is a valid week that was opened, with its sheets as charts.
type opened struct {
	api.Week
	charts []chart
}

// A chart is a valid sheet with what it shows. Once it is laid out, it has the states of its clock and the moves of its pen.
type chart struct {
	api.Filed
	clockwork
	ink   [][]api.Span
	width int   // how many offsets there are
	usual moves // of the pen
}

// open returns a week that was opened, or the error of Check.
func open(w api.Week) (*opened, api.Errno) {
	if e, _ := stations.Check(w.Base.Stations); e != api.OK {
		return nil, e
	}
	o := &opened{Week: w}
	if !isBase(w.Base) || !between(w.Week, 0, api.MaxWeek) || !o.areReads() || !o.readSheets() {
		return nil, api.ErrWeek
	}
	return o, api.OK
}

// isBase reports whether a base with valid stations is valid but for its clerks.
func isBase(b api.Base) bool {
	return stations.CheckWind(b.Wind) == api.OK && between(b.Ticks, 1, api.MaxTicks) && between(b.Term, 0, b.Ticks)
}

func (o *opened) areReads() bool {
	if len(o.Reads) > api.MaxReads {
		return false
	}
	for _, r := range o.Reads {
		if !o.isFiledHere(r.Station, r.Week) || !between(r.Tick, 0, o.Base.Ticks) {
			return false
		}
		if r.Levels.Lo < 0 || isNothing(r.Levels) || r.Levels.Hi > api.MaxLevel {
			return false
		}
	}
	return true
}

// isFiledHere reports whether a station is one of the week's, and a week this one.
func (o *opened) isFiledHere(station, week int) bool {
	_, e := stations.StationOf(o.Base.Stations, station)
	return e == api.OK && week == o.Week.Week
}

// readSheets makes the charts of all sheets, or returns false if one is not valid.
func (o *opened) readSheets() bool {
	if len(o.Sheets) > api.MaxSheets {
		return false
	}
	for i, f := range o.Sheets {
		if !o.isFiledHere(f.Station, f.Week) || i > 0 && f.Station <= o.Sheets[i-1].Station {
			return false
		}
		c, ok := chartOf(f)
		if !ok {
			return false
		}
		o.charts = append(o.charts, c)
	}
	return true
}

// chartOf returns the chart of a sheet, or false if it is not valid.
func chartOf(f api.Filed) (chart, bool) {
	s := f.Sheet
	ink, e := paper.Ink(s.Paper, s.Trace, s.Blots)
	if e != api.OK || pens.Check(s.Pen) != api.OK || len(s.Drum.Rates)+1 != s.Paper.Columns {
		return chart{}, false
	}
	if e, _ := clocks.CheckMarks(s.Drum, f.Marks); e != api.OK {
		return chart{}, false
	}
	return chart{Filed: f, ink: ink.Columns}, true
}

func (o *opened) hasSheet(sheet int) bool { return between(sheet, 0, len(o.charts)-1) }

// openSheet returns a week that was opened, in which a sheet is laid out. It returns the errors that come ahead of those of a rule; right says whether the other arguments of a function are.
func openSheet(w api.Week, sheet int, right bool) (*opened, api.Errno) {
	o, e := open(w)
	if e != api.OK {
		return nil, e
	}
	if !o.hasSheet(sheet) || !right {
		return nil, api.ErrArg
	}
	if !o.charts[sheet].layOut(o.Base.Ticks) {
		return nil, api.ErrLimit
	}
	return o, api.OK
}

// openSheets returns a week that was opened, in which all sheets are laid out, with errors likewise.
func openSheets(w api.Week, right bool) (*opened, api.Errno) {
	o, e := open(w)
	if e != api.OK {
		return nil, e
	}
	if !right {
		return nil, api.ErrArg
	}
	for i := range o.charts {
		if !o.charts[i].layOut(o.Base.Ticks) {
			return nil, api.ErrLimit
		}
	}
	return o, api.OK
}

// layOut makes the states and the moves of a chart, or returns false if its track would have too many nodes.
func (c *chart) layOut(ticks int) bool {
	gaps := gapsOf(c.Sheet.Drum)
	c.width = 2*c.Sheet.Pen.Band + 1
	if countStates(gaps, ticks)*c.width > api.MaxNodes {
		return false
	}
	c.clockwork = clockworkOf(gaps, ticks)
	c.usual = movesOf(c.Sheet.Pen)
	return true
}

// offset returns the offset of a node.
func (c *chart) offset(node int) int { return node%c.width - c.Sheet.Pen.Band }
