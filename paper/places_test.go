package paper_test

import (
	"slices"
	"testing"

	"aneroid/api"
	"aneroid/paper"
)

func TestCheckPaper(t *testing.T) {
	smallest := api.Paper{Pitch: 1, Height: 1, Radius: 1, Low: 0, High: 1, Columns: 1, Along: span(900, 900), Across: span(1100, 1100)}
	straight := example()
	straight.Radius = 0
	for i, p := range []api.Paper{example(), largest(), smallest, straight} {
		if e := paper.CheckPaper(p); e != api.OK {
			t.Error(i, e)
		}
	}
	for i, p := range append(badPapers(), api.Paper{}) {
		if e := paper.CheckPaper(p); e != api.ErrPaper {
			t.Error(i, e)
		}
	}
}

func TestCheckTrace(t *testing.T) {
	good := []api.Point{{}, {X: api.MaxPaper, Y: api.MaxPaper, Half: 5000}}
	for i, l := range [][]api.Point{nil, {}, good, make([]api.Point, api.MaxPoints)} {
		if e, at := paper.CheckTrace(l); e != api.OK || at != 0 {
			t.Error(i, e, at)
		}
	}
	for _, bad := range badPoints() {
		if e, at := paper.CheckTrace([]api.Point{{}, good[1], bad, bad}); e != api.ErrTrace || at != 2 {
			t.Error(bad, e, at)
		}
	}
	full := make([]api.Point, api.MaxPoints)
	full[api.MaxPoints-1].Half = 5001
	if e, at := paper.CheckTrace(full); e != api.ErrTrace || at != api.MaxPoints-1 {
		t.Error(e, at)
	}
	long := make([]api.Point, api.MaxPoints+1)
	long[1].X = -1
	if e, at := paper.CheckTrace(long); e != api.ErrLimit || at != 0 {
		t.Error(e, at)
	}
	if e, at := paper.CheckTrace(long[:api.MaxPoints]); e != api.ErrTrace || at != 1 {
		t.Error(e, at)
	}
}

func TestAlongAndAcross(t *testing.T) {
	p := example()
	shrunk := p
	shrunk.Along, shrunk.Across = span(980, 1000), span(900, 1100)
	for i, c := range []struct {
		p             api.Paper
		t             api.Point
		along, across api.Span
	}{
		{p, api.Point{X: 210, Y: 300, Half: 5}, span(205, 215), span(295, 305)},
		{shrunk, api.Point{X: 210, Y: 500, Half: 5}, span(205, 219), span(450, 561)},
		{shrunk, api.Point{X: 124, Y: 500}, span(124, 126), span(454, 555)},
		{p, api.Point{X: 3, Y: 4, Half: 5}, span(0, 8), span(0, 9)},
		{shrunk, api.Point{X: 1, Y: 0, Half: 2}, span(0, 3), span(0, 2)},
		{p, api.Point{X: 7, Y: 2000}, span(7, 7), span(2000, 2000)},
		{largest(), api.Point{X: api.MaxPaper, Y: api.MaxPaper, Half: 5000}, span(359090, 450000), span(359090, 450000)},
	} {
		if s, e := paper.Along(c.p, c.t); s != c.along || e != api.OK {
			t.Error(i, s, e)
		}
		if s, e := paper.Across(c.p, c.t); s != c.across || e != api.OK {
			t.Error(i, s, e)
		}
	}
}

func TestArcAndLevel(t *testing.T) {
	p, straight, coarse := example(), example(), example()
	straight.Radius = 0
	coarse.High = 9610
	for i, c := range []struct {
		p             api.Paper
		y, arc, level int
	}{
		{p, 0, 0, 9600}, {p, 500, 125, 10100}, {p, 100, 45, 9700}, {p, 1000, 0, 10600}, {p, 250, 93, 9850},
		{straight, 500, 0, 10100},
		{coarse, 99, 44, 9600}, {coarse, 100, 45, 9601}, {coarse, 999, 0, 9609}, {coarse, 1000, 0, 9610},
		{largest(), 200000, 5000, 6000}, {largest(), 399999, 0, 11999}, {largest(), 400000, 0, 12000},
	} {
		if n, e := paper.Arc(c.p, c.y); n != c.arc || e != api.OK {
			t.Error(i, n, e)
		}
		if n, e := paper.Level(c.p, c.y); n != c.level || e != api.OK {
			t.Error(i, n, e)
		}
	}
	for _, y := range []int{-1, 1001, -1 << 63, 1<<63 - 1} {
		if n, e := paper.Arc(p, y); n != 0 || e != api.ErrArg {
			t.Error(y, n, e)
		}
		if n, e := paper.Level(p, y); n != 0 || e != api.ErrArg {
			t.Error(y, n, e)
		}
	}
}

func TestHeights(t *testing.T) {
	coarse := example()
	coarse.High = 9603
	for i, c := range []struct {
		p     api.Paper
		level int
		want  api.Span
	}{
		{example(), 9850, span(250, 250)}, {example(), 9600, span(0, 0)}, {example(), 10600, span(1000, 1000)},
		{coarse, 9600, span(0, 333)}, {coarse, 9601, span(334, 666)}, {coarse, 9602, span(667, 999)}, {coarse, 9603, span(1000, 1000)},
		{largest(), 12000, span(400000, 400000)}, {largest(), 11999, span(399967, 399999)},
	} {
		if s, e := paper.Heights(c.p, c.level); s != c.want || e != api.OK {
			t.Error(i, s, e)
		}
	}
	for _, level := range []int{9599, 10601, -1 << 63, 1<<63 - 1} {
		if s, e := paper.Heights(example(), level); s != (api.Span{}) || e != api.ErrArg {
			t.Error(level, s, e)
		}
	}
}

func TestColumnsAndLevels(t *testing.T) {
	p, fine, straight := example(), example(), example()
	fine.Pitch, fine.Across = 1, span(900, 1100)
	straight.Radius = 0
	for i, c := range []struct {
		p               api.Paper
		t               api.Point
		columns, levels api.Span
	}{
		{p, api.Point{X: 210, Y: 300, Half: 5}, span(1, 1), span(9895, 9905)},
		{p, api.Point{X: 202, Y: 300, Half: 5}, span(0, 1), span(9895, 9905)},
		{fine, api.Point{X: 124, Y: 500}, span(0, 1), span(10054, 10155)},
		{p, api.Point{X: 120, Y: 500, Half: 5}, span(0, 0), span(10095, 10105)},
		{p, api.Point{X: 0, Y: 0}, span(0, 0), span(9600, 9600)},
		{p, api.Point{X: 400, Y: 1000, Half: 5}, span(3, 3), span(10595, 10600)},
		{straight, api.Point{X: 200, Y: 500, Half: 1}, span(1, 2), span(10099, 10101)},
		{straight, api.Point{X: 399, Y: 500, Half: 5000}, span(0, 3), span(9600, 10600)},
	} {
		if s, e := paper.Columns(c.p, c.t); s != c.columns || e != api.OK {
			t.Error(i, s, e)
		}
		if s, e := paper.Levels(c.p, c.t); s != c.levels || e != api.OK {
			t.Error(i, s, e)
		}
	}
	for i, at := range []api.Point{{X: 50, Y: 500}, {X: 525, Y: 500}, {X: 400}, {X: 100, Y: 1001}} {
		if s, e := paper.Columns(p, at); s != (api.Span{}) || e != api.ErrNone {
			t.Error(i, s, e)
		}
	}
	if s, e := paper.Levels(p, api.Point{X: 50, Y: 500}); s != span(10100, 10100) || e != api.OK {
		t.Error("levels do not ask for a column:", s, e)
	}
	if s, e := paper.Levels(p, api.Point{Y: 1006, Half: 5}); s != (api.Span{}) || e != api.ErrNone {
		t.Error(s, e)
	}
}

func TestMeans(t *testing.T) {
	p, fine := example(), example()
	fine.Pitch, fine.Across = 1, span(900, 1100)
	for i, c := range []struct {
		p      api.Paper
		t      api.Point
		column int
		want   []api.Span
	}{
		{p, api.Point{X: 202, Y: 300, Half: 5}, 0, []api.Span{span(9895, 9905)}},
		{p, api.Point{X: 202, Y: 300, Half: 5}, 1, []api.Span{span(9895, 9905)}},
		{p, api.Point{X: 202, Y: 300, Half: 5}, 2, nil},
		{fine, api.Point{X: 124, Y: 500}, 0, []api.Span{span(10056, 10099), span(10101, 10144)}},
		{fine, api.Point{X: 124, Y: 500}, 1, []api.Span{span(10054, 10055), span(10145, 10155)}},
		{fine, api.Point{X: 124, Y: 500}, 2, nil},
		{p, api.Point{X: 100, Y: 1001}, 0, nil},
	} {
		if l, e := paper.Means(c.p, c.t, c.column); !slices.Equal(l, c.want) || e != api.OK {
			t.Error(i, l, e)
		}
	}
	for _, column := range []int{-1, 4, -1 << 63, 1<<63 - 1} {
		if l, e := paper.Means(p, api.Point{}, column); l != nil || e != api.ErrArg {
			t.Error(column, l, e)
		}
	}
}

func TestShrink(t *testing.T) {
	p := example()
	p.Along, p.Across = span(900, 1000), span(950, 1100)
	for i, c := range []struct {
		t             api.Point
		along, across int
		want          api.Point
	}{
		{api.Point{X: 1000, Y: 500, Half: 2}, 950, 1000, api.Point{X: 950, Y: 500, Half: 2}},
		{api.Point{X: 999, Y: 999, Half: 5000}, 900, 950, api.Point{X: 899, Y: 949, Half: 5000}},
		{api.Point{X: api.MaxPaper, Y: 363637}, 1000, 1100, api.Point{X: api.MaxPaper, Y: 400000}},
	} {
		if x, e := paper.Shrink(p, c.t, c.along, c.across); x != c.want || e != api.OK {
			t.Error(i, x, e)
		}
	}
	for _, s := range [][2]int{{899, 1000}, {1001, 1000}, {1000, 949}, {1000, 1101}, {-1 << 63, 1<<63 - 1}} {
		if x, e := paper.Shrink(p, api.Point{X: 1, Y: api.MaxPaper}, s[0], s[1]); x != (api.Point{}) || e != api.ErrArg {
			t.Error(s, x, e)
		}
	}
	p.Along = span(1100, 1100)
	for _, at := range []api.Point{{X: 363638}, {Y: 363638}} {
		if x, e := paper.Shrink(p, at, 1100, 1100); x != (api.Point{}) || e != api.ErrLimit {
			t.Error(at, x, e)
		}
	}
}

func TestCalibrate(t *testing.T) {
	wide := example()
	wide.Along, wide.Across = span(900, 1100), span(900, 1100)
	for i, c := range []struct {
		x, y          int
		t             api.Point
		along, across api.Span
	}{
		{1000, -1, api.Point{X: 950, Y: 500, Half: 2}, span(947, 952), span(900, 1100)},
		{-1, 1000, api.Point{X: 950, Y: 950, Half: 2}, span(900, 1100), span(947, 952)},
		{1000, 2000, api.Point{X: 950, Y: 2100, Half: 2}, span(947, 952), span(1048, 1051)},
		{-1, -1, api.Point{}, span(900, 1100), span(900, 1100)},
		{999, 1, api.Point{X: 950, Y: 0, Half: 2}, span(948, 953), span(900, 1100)},
		{1, 999, api.Point{X: 0, Y: 950, Half: 1}, span(900, 1000), span(949, 952)},
		{0, -1, api.Point{X: 3, Half: 2}, span(1000, 1100), span(900, 1100)},
		{0, 0, api.Point{X: 3, Y: 3, Half: 3}, span(900, 1100), span(900, 1100)},
		{10, 7, api.Point{X: 4, Y: 4, Half: 5}, span(900, 900), span(900, 1100)},
		{2 * api.MaxPaper, -1, api.Point{X: api.MaxPaper, Half: 0}, span(0, 0), span(0, 0)},
		{100, -1, api.Point{X: 950, Half: 2}, span(0, 0), span(0, 0)},
		{-1, 0, api.Point{Y: 3, Half: 1}, span(0, 0), span(0, 0)},
	} {
		want, error := wide, api.OK
		want.Along, want.Across = c.along, c.across
		if c.along == span(0, 0) {
			want, error = api.Paper{}, api.ErrNone
		}
		if q, e := paper.Calibrate(wide, c.x, c.y, c.t); q != want || e != error {
			t.Error(i, q, e)
		}
	}
	for _, k := range [][2]int{{-2, 0}, {0, -2}, {2*api.MaxPaper + 1, -1}, {-1, 2*api.MaxPaper + 1}, {1<<63 - 1, -1 << 63}} {
		if q, e := paper.Calibrate(wide, k[0], k[1], api.Point{X: 9, Y: 9}); q != (api.Paper{}) || e != api.ErrArg {
			t.Error(k, q, e)
		}
	}
	narrow := example()
	if q, e := paper.Calibrate(narrow, 1000, 1000, api.Point{X: 1001, Y: 1001, Half: 2}); q != narrow || e != api.OK {
		t.Error("what was known is known still:", q, e)
	}
}

// calls are all functions with a paper, each with arguments that are wrong but for the paper and the point.
func calls(p api.Paper, at api.Point) map[string]func() (bool, api.Errno) {
	return map[string]func() (bool, api.Errno){
		"Along":     func() (bool, api.Errno) { x, e := paper.Along(p, at); return x == api.Span{}, e },
		"Across":    func() (bool, api.Errno) { x, e := paper.Across(p, at); return x == api.Span{}, e },
		"Columns":   func() (bool, api.Errno) { x, e := paper.Columns(p, at); return x == api.Span{}, e },
		"Levels":    func() (bool, api.Errno) { x, e := paper.Levels(p, at); return x == api.Span{}, e },
		"Means":     func() (bool, api.Errno) { x, e := paper.Means(p, at, -1); return len(x) == 0, e },
		"Shrink":    func() (bool, api.Errno) { x, e := paper.Shrink(p, at, 0, 0); return x == api.Point{}, e },
		"Calibrate": func() (bool, api.Errno) { x, e := paper.Calibrate(p, -2, -2, at); return x == api.Paper{}, e },
		"Ink": func() (bool, api.Errno) {
			x, e := paper.Ink(p, []api.Point{{}, at}, []int{-1})
			return len(x.Columns) == 0, e
		},
	}
}

func TestErrorsInOrder(t *testing.T) {
	for i, p := range badPapers() {
		for name, call := range calls(p, api.Point{X: -1}) {
			if zero, e := call(); !zero || e != api.ErrPaper {
				t.Error(i, name, e)
			}
		}
		for name, call := range map[string]func(api.Paper, int) (int, api.Errno){"Arc": paper.Arc, "Level": paper.Level} {
			if n, e := call(p, -1); n != 0 || e != api.ErrPaper {
				t.Error(i, name, n, e)
			}
		}
		if s, e := paper.Heights(p, -1); s != (api.Span{}) || e != api.ErrPaper {
			t.Error(i, s, e)
		}
	}
	for _, at := range badPoints() {
		for name, call := range calls(example(), at) {
			if zero, e := call(); !zero || e != api.ErrTrace {
				t.Error(at, name, e)
			}
		}
	}
}
