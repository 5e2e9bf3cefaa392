package paper_test

import (
	"math/rand/v2"
	"slices"
	"testing"

	"aneroid/api"
	"aneroid/paper"
)

func span(lo, hi int) api.Span { return api.Span{Lo: lo, Hi: hi} }

// example is the paper of the chapter's examples.
func example() api.Paper {
	return api.Paper{Pitch: 100, Height: 1000, Radius: 1000, Low: 9600, High: 10600, Columns: 4, Along: span(1000, 1000), Across: span(1000, 1000)}
}

// largest is a paper with all its numbers at the upper limits.
func largest() api.Paper {
	return api.Paper{Pitch: 10000, Height: api.MaxPaper, Radius: 10 * api.MaxPaper, Low: 0, High: api.MaxLevel, Columns: api.MaxColumns, Along: span(900, 1100), Across: span(900, 1100)}
}

// badPapers are papers with one wrong number each.
func badPapers() []api.Paper {
	var l []api.Paper
	for _, spoil := range []func(p *api.Paper){
		func(p *api.Paper) { p.Pitch = 0 },
		func(p *api.Paper) { p.Pitch = 10001 },
		func(p *api.Paper) { p.Height = 0; p.Radius = 0; p.Low = 0; p.High = 1 },
		func(p *api.Paper) { p.Height = -1 << 63; p.Radius = 0 },
		func(p *api.Paper) { p.Height = 999; p.Radius = 1000 },
		func(p *api.Paper) { p.Height = api.MaxPaper + 1; p.Radius = 0 },
		func(p *api.Paper) { p.Radius = 999 },
		func(p *api.Paper) { p.Radius = -1 },
		func(p *api.Paper) { p.Radius = 10*api.MaxPaper + 1 },
		func(p *api.Paper) { p.Low = p.High },
		func(p *api.Paper) { p.Low = -1; p.High = 900 },
		func(p *api.Paper) { p.Low = -1 << 63; p.High = 1<<63 - 1 },
		func(p *api.Paper) { p.High = 10601 },
		func(p *api.Paper) { p.Low = 12000; p.High = 12001 },
		func(p *api.Paper) { p.Columns = 0 },
		func(p *api.Paper) { p.Columns = 201 },
		func(p *api.Paper) { p.Along = span(899, 1000) },
		func(p *api.Paper) { p.Along = span(1000, 1101) },
		func(p *api.Paper) { p.Along = span(1001, 1000) },
		func(p *api.Paper) { p.Across = span(899, 1000) },
		func(p *api.Paper) { p.Across = span(1000, 1101) },
		func(p *api.Paper) { p.Across = span(1001, 1000) },
	} {
		p := example()
		spoil(&p)
		l = append(l, p)
	}
	return l
}

func badPoints() []api.Point {
	return []api.Point{{X: -1}, {X: api.MaxPaper + 1}, {Y: -1}, {Y: api.MaxPaper + 1}, {Half: -1}, {Half: 5001}, {X: -1 << 63, Y: 1<<63 - 1, Half: 1<<63 - 1}}
}

// dice gives the same numbers in every run.
type dice struct{ *rand.Rand }

func newDice(seed uint64) dice { return dice{rand.New(rand.NewPCG(seed, 1))} }

func (d dice) from(lo, hi int) int { return lo + d.IntN(hi-lo+1) }

func (d dice) spanIn(lo, hi int) api.Span {
	a := d.from(lo, hi)
	return span(a, d.from(a, hi))
}

// paper returns a paper that is small enough to go through all its places.
func (d dice) paper() api.Paper {
	p := api.Paper{Pitch: d.from(1, 12), Height: d.from(1, 150), Columns: d.from(1, 6)}
	if d.IntN(4) > 0 {
		p.Radius = d.from(p.Height, 2*p.Height)
	}
	p.Low = d.from(0, 100)
	p.High = p.Low + d.from(1, p.Height)
	p.Along, p.Across = d.spanIn(900, 1100), d.spanIn(900, 1100)
	return p
}

func (d dice) point(p api.Paper) api.Point {
	return api.Point{X: d.from(0, p.Pitch*p.Columns+p.Height/8), Y: d.from(0, p.Height*5/4), Half: d.from(0, 3) * d.from(0, 5)}
}

// crossed returns a paper and a point in its middle that a time line may cross below and above the middle.
func (d dice) crossed() (api.Paper, api.Point) {
	p := d.paper()
	p.Height = d.from(600, 1000)
	p.High = p.Low + d.from(p.Height/2, p.Height)
	p.Pitch, p.Radius = d.from(1, 2), p.Height
	p.Along, p.Across = span(1000, 1000), span(900, 1100)
	return p, api.Point{X: p.Height/8 + d.from(-3, 3), Y: p.Height/2 + d.from(-20, 20), Half: d.from(0, 1)}
}

func (d dice) trace(p api.Paper, n int) []api.Point {
	var l []api.Point
	for range n {
		l = append(l, d.point(p))
	}
	return l
}

// inked returns a sheet with few levels, of which some columns show nothing.
func (d dice) inked(columns int) api.Inked {
	x := api.Inked{Columns: make([][]api.Span, columns)}
	for c := range x.Columns {
		at := d.from(0, 2)
		for range d.from(0, 3) {
			hi := at + d.from(0, 4)
			x.Columns[c] = append(x.Columns[c], span(at, hi))
			at = hi + d.from(2, 4)
		}
	}
	return x
}

func floor(a, b int) int {
	q := a / b
	if q*b > a {
		q--
	}
	return q
}

type place struct{ x, y int }

// placesOf returns all printed places of a point, as the chapter words them.
func placesOf(p api.Paper, t api.Point) []place {
	var l []place
	for x := max(0, floor((t.X-t.Half)*1000, p.Along.Hi)); x <= floor((t.X+t.Half)*1000, p.Along.Lo); x++ {
		for y := max(0, floor((t.Y-t.Half)*1000, p.Across.Hi)); y <= floor((t.Y+t.Half)*1000, p.Across.Lo); y++ {
			l = append(l, place{x, y})
		}
	}
	return l
}

// columnAt returns the column of a printed place, if it has one.
func columnAt(p api.Paper, at place) (int, bool) {
	if at.y > p.Height {
		return 0, false
	}
	arc := 0
	if p.Radius > 0 {
		arc = floor(at.y*(p.Height-at.y), 2*p.Radius)
	}
	c := floor(at.x-arc, p.Pitch)
	return c, c >= 0 && c < p.Columns
}

func levelAt(p api.Paper, y int) int { return p.Low + floor(y*(p.High-p.Low), p.Height) }

// meansOf returns the levels of all printed places of a point, for each column.
func meansOf(p api.Paper, t api.Point) []map[int]bool {
	l := make([]map[int]bool, p.Columns)
	for _, at := range placesOf(p, t) {
		if c, ok := columnAt(p, at); ok {
			if l[c] == nil {
				l[c] = map[int]bool{}
			}
			l[c][levelAt(p, at.y)] = true
		}
	}
	return l
}

// setOf returns numbers as a set of spans.
func setOf(numbers map[int]bool) []api.Span {
	var l []api.Span
	for n := range 2 * api.MaxLevel {
		if !numbers[n] {
			continue
		}
		if k := len(l) - 1; k >= 0 && l[k].Hi == n-1 {
			l[k].Hi = n
		} else {
			l = append(l, span(n, n))
		}
	}
	return l
}

func numbersOf(l []api.Span) map[int]bool {
	m := map[int]bool{}
	for _, s := range l {
		for n := s.Lo; n <= s.Hi; n++ {
			m[n] = true
		}
	}
	return m
}

func sameInk(a, b api.Inked) bool {
	return slices.EqualFunc(a.Columns, b.Columns, func(a, b []api.Span) bool { return slices.Equal(a, b) })
}

func within(t *testing.T, a, b api.Inked) bool {
	t.Helper()
	ok, e := paper.Within(a, b)
	if e != api.OK {
		t.Fatal(e, a, b)
	}
	return ok
}

func both(t *testing.T, a, b api.Inked) api.Inked {
	t.Helper()
	x, e := paper.Both(a, b)
	if e != api.OK {
		t.Fatal(e, a, b)
	}
	return x
}

func either(t *testing.T, a, b api.Inked) api.Inked {
	t.Helper()
	x, e := paper.Either(a, b)
	if e != api.OK {
		t.Fatal(e, a, b)
	}
	return x
}
