package codes

import "aneroid/api"

// The following functions take a coder through what notes and atlases have in common.

// Span takes a coder through a span.
func Span(c Coder, s *api.Span) { Numbers(c, &s.Lo, &s.Hi) }

// Name takes a coder through the name of a note.
func Name(c Coder, n *api.Name) { Numbers(c, &n.Clerk, &n.Num) }

// Mark takes a coder through a mark.
func Mark(c Coder, m *api.Mark) {
	Number(c, &m.Column)
	Span(c, &m.Ticks)
}

// Reading takes a coder through a reading.
func Reading(c Coder, r *api.Read) {
	Numbers(c, &r.Station, &r.Week, &r.Tick)
	Span(c, &r.Levels)
}

// Height takes a coder through a height.
func Height(c Coder, h *api.Height) {
	Number(c, &h.Week)
	Span(c, &h.Metres)
}

// Sheet takes a coder through a sheet.
func Sheet(c Coder, s *api.Sheet) {
	p := &s.Paper
	Numbers(c, &p.Pitch, &p.Height, &p.Radius, &p.Low, &p.High, &p.Columns)
	Span(c, &p.Along)
	Span(c, &p.Across)
	List(c, &s.Trace, point)
	List(c, &s.Blots, Number)
	List(c, &s.Drum.Rates, Span)
	List(c, &s.Drum.Stops, stop)
	Number(c, &s.Pen.Band)
	Span(c, &s.Pen.Zero)
	Number(c, &s.Pen.Rate)
}

func point(c Coder, p *api.Point) { Numbers(c, &p.X, &p.Y, &p.Half) }

func stop(c Coder, s *api.Stop) {
	Number(c, &s.Column)
	Span(c, &s.Ticks)
}
