package paper_test

import (
	"slices"
	"testing"
	"time"

	"aneroid/api"
	"aneroid/paper"
)

func straight() api.Paper {
	p := example()
	p.Radius = 0
	return p
}

func TestInk(t *testing.T) {
	l := []api.Point{{X: 50, Y: 100, Half: 1}, {X: 50, Y: 110}, {X: 150, Y: 200}, {X: 50, Y: 103, Half: 1}, {X: 350, Y: 1001}}
	x, e := paper.Ink(straight(), l, []int{1})
	if want := (api.Inked{Columns: [][]api.Span{{span(9699, 9704), span(9710, 9710)}, nil, nil, nil}}); e != api.OK || !sameInk(x, want) {
		t.Error(x, e)
	}
	x, e = paper.Ink(straight(), l, []int{0, 2, 3})
	if want := (api.Inked{Columns: [][]api.Span{nil, {span(9800, 9800)}, nil, nil}}); e != api.OK || !sameInk(x, want) {
		t.Error(x, e)
	}
	x, e = paper.Ink(straight(), nil, nil)
	if e != api.OK || !sameInk(x, api.Inked{Columns: make([][]api.Span, 4)}) {
		t.Error(x, e)
	}
	for _, blots := range [][]int{{4}, {1, 1}, {-1}, {2, 1}, {0, 4}, {-1 << 63}, {1<<63 - 1}, make([]int, 300)} {
		if x, e := paper.Ink(straight(), l, blots); len(x.Columns) != 0 || e != api.ErrArg {
			t.Error(blots, x, e)
		}
	}
}

func TestInkOnLimits(t *testing.T) {
	var eight, nine []api.Point
	for i := range 9 {
		nine = append(nine, api.Point{X: 50, Y: 2 * i})
	}
	eight = nine[:8]
	if x, e := paper.Ink(straight(), eight, nil); e != api.OK || len(x.Columns[0]) != 8 {
		t.Error(x, e)
	}
	if x, e := paper.Ink(straight(), nine, nil); e != api.ErrLimit || len(x.Columns) != 0 {
		t.Error(x, e)
	}
	if x, e := paper.Ink(straight(), nine, []int{0}); e != api.OK || len(x.Columns[0]) != 0 {
		t.Error("a blotted column has no limit:", x, e)
	}
	closed := append(slices.Clone(nine), api.Point{X: 50, Y: 1})
	if x, e := paper.Ink(straight(), closed, nil); e != api.OK || len(x.Columns[0]) != 8 {
		t.Error("only the whole trace counts:", x, e)
	}
	long := make([]api.Point, api.MaxPoints+1)
	long[0].X = -1
	if x, e := paper.Ink(straight(), long, []int{-1}); e != api.ErrLimit || len(x.Columns) != 0 {
		t.Error(x, e)
	}
	bad := straight()
	bad.Pitch = 0
	if _, e := paper.Ink(bad, long, []int{-1}); e != api.ErrPaper {
		t.Error(e)
	}
}

func TestInkOfLargeSheets(t *testing.T) {
	p := largest()
	p.Pitch = 200
	l := make([]api.Point, api.MaxPoints)
	for i := range l {
		l[i] = api.Point{X: 20 * i, Y: 200 * i, Half: 5000}
	}
	start := time.Now()
	x, e := paper.Ink(p, l, nil)
	if e != api.OK || len(x.Columns) != api.MaxColumns || slices.ContainsFunc(x.Columns, func(l []api.Span) bool { return len(l) == 0 }) {
		t.Error(e, len(x.Columns))
	}
	if d := time.Since(start); d > 10*time.Second {
		t.Error(d)
	}
}

func TestCheckInked(t *testing.T) {
	var eight, nine []api.Span
	for i := range 9 {
		nine = append(nine, span(2*i, 2*i))
	}
	eight = nine[:8]
	for i, x := range []api.Inked{
		{Columns: [][]api.Span{nil}},
		{Columns: [][]api.Span{{}, {span(0, 12000)}, {span(0, 0), span(2, 3), span(12000, 12000)}, eight}},
		{Columns: make([][]api.Span, api.MaxColumns)},
	} {
		if e := paper.CheckInked(x); e != api.OK {
			t.Error(i, e)
		}
	}
	for i, x := range badSheets(nine) {
		if e := paper.CheckInked(x); e != api.ErrInk {
			t.Error(i, e)
		}
		if l, e := paper.Gaps(x); l != nil || e != api.ErrInk {
			t.Error(i, l, e)
		}
		if l, e := paper.Crossings(x); l != nil || e != api.ErrInk {
			t.Error(i, l, e)
		}
	}
}

func badSheets(nine []api.Span) []api.Inked {
	l := []api.Inked{{}, {Columns: make([][]api.Span, api.MaxColumns+1)}}
	for _, spans := range [][]api.Span{
		nine, {span(2, 1)}, {span(-1, 1)}, {span(0, 12001)}, {span(12001, 12001)},
		{span(1, 2), span(3, 4)}, {span(1, 2), span(2, 4)}, {span(5, 6), span(1, 2)}, {span(1, 2), span(1, 2)},
		{span(-1<<63, 1<<63-1)}, {span(0, 1<<63-1), span(1, 1)},
	} {
		l = append(l, api.Inked{Columns: [][]api.Span{nil, spans}})
	}
	return l
}

func TestGapsAndCrossings(t *testing.T) {
	one, two := []api.Span{span(1, 2)}, []api.Span{span(1, 2), span(4, 4)}
	x := api.Inked{Columns: [][]api.Span{nil, one, two, {}, one, two}}
	if l, e := paper.Gaps(x); !slices.Equal(l, []int{0, 3}) || e != api.OK {
		t.Error(l, e)
	}
	if l, e := paper.Crossings(x); !slices.Equal(l, []int{2, 5}) || e != api.OK {
		t.Error(l, e)
	}
	if l, e := paper.Gaps(api.Inked{Columns: [][]api.Span{one}}); len(l) != 0 || e != api.OK {
		t.Error(l, e)
	}
}

func TestBothEitherWithin(t *testing.T) {
	a := api.Inked{Columns: [][]api.Span{{span(1, 5)}, {}, {span(2, 3), span(8, 9)}, nil, {span(0, 3), span(6, 9)}}}
	b := api.Inked{Columns: [][]api.Span{{span(4, 9)}, {span(1, 1)}, {}, nil, {span(2, 4), span(6, 6), span(9, 12)}}}
	if x := both(t, a, b); !sameInk(x, api.Inked{Columns: [][]api.Span{{span(4, 5)}, {span(1, 1)}, {span(2, 3), span(8, 9)}, nil, {span(2, 3), span(6, 6), span(9, 9)}}}) {
		t.Error(x)
	}
	if x := either(t, a, b); !sameInk(x, api.Inked{Columns: [][]api.Span{{span(1, 9)}, nil, nil, nil, {span(0, 4), span(6, 12)}}}) {
		t.Error(x)
	}
	one := func(l ...api.Span) api.Inked { return api.Inked{Columns: [][]api.Span{l}} }
	if x := either(t, one(span(1, 2)), one(span(3, 4))); !sameInk(x, one(span(1, 4))) {
		t.Error("touching spans are one:", x)
	}
	for i, c := range []struct {
		a, b api.Inked
		want bool
	}{
		{a, b, false}, {one(), one(), true}, {one(span(1, 2)), one(), true}, {one(), one(span(0, 12000)), false},
		{one(span(1, 2), span(4, 5)), one(span(1, 5)), true}, {one(span(1, 5)), one(span(1, 2), span(4, 5)), false},
		{one(span(2, 2), span(4, 5)), one(span(1, 2), span(4, 9)), true}, {one(span(2, 3)), one(span(3, 4)), false},
		{one(span(1, 1), span(9, 9)), one(span(1, 1)), false},
	} {
		if got := within(t, c.a, c.b); got != c.want {
			t.Error(i, got)
		}
	}
}

func TestErrorsOfCopies(t *testing.T) {
	one := api.Inked{Columns: [][]api.Span{{span(1, 2)}}}
	bad := api.Inked{Columns: [][]api.Span{{span(2, 1)}}}
	more := api.Inked{Columns: make([][]api.Span, 2)}
	check := func(a, b api.Inked, want api.Errno) {
		t.Helper()
		if x, e := paper.Both(a, b); len(x.Columns) != 0 || e != want {
			t.Error(x, e)
		}
		if x, e := paper.Either(a, b); len(x.Columns) != 0 || e != want {
			t.Error(x, e)
		}
		if ok, e := paper.Within(a, b); ok || e != want {
			t.Error(ok, e)
		}
	}
	check(bad, one, api.ErrInk)
	check(one, bad, api.ErrInk)
	check(more, bad, api.ErrInk)
	check(api.Inked{}, api.Inked{}, api.ErrInk)
	check(one, more, api.ErrArg)
	check(more, one, api.ErrArg)
}

func TestLimitsOfCopies(t *testing.T) {
	// Of the first column the two sheets have no level in common; in the second one they cut each other into more than 8 spans, or fill 9.
	a := api.Inked{Columns: [][]api.Span{{span(1, 2)}, nil}}
	b := api.Inked{Columns: [][]api.Span{{span(4, 5)}, nil}}
	if x, e := paper.Both(a, b); len(x.Columns) != 0 || e != api.ErrNone {
		t.Error(x, e)
	}
	if x := either(t, a, b); !sameInk(x, api.Inked{Columns: [][]api.Span{{span(1, 2), span(4, 5)}, nil}}) {
		t.Error(x)
	}
	for i := range 8 {
		a.Columns[1] = append(a.Columns[1], span(100*i, 100*i+60))
		b.Columns[1] = append(b.Columns[1], span(100*i+50, 100*i+110))
	}
	if x, e := paper.Both(a, b); len(x.Columns) != 0 || e != api.ErrLimit {
		t.Error("ErrLimit is ahead of ErrNone:", x, e)
	}
	if x := either(t, a, b); !slices.Equal(x.Columns[1], []api.Span{span(0, 810)}) {
		t.Error(x)
	}
	b.Columns[1] = []api.Span{span(70, 80)}
	if x, e := paper.Either(a, b); len(x.Columns) != 0 || e != api.ErrLimit {
		t.Error(x, e)
	}
	if ok, e := paper.Within(a, b); ok || e != api.OK {
		t.Error(ok, e)
	}
}

func TestResultsAreNewMemory(t *testing.T) {
	a := api.Inked{Columns: [][]api.Span{{span(1, 2)}, nil, {span(5, 9)}}}
	b := api.Inked{Columns: [][]api.Span{nil, {span(3, 4)}, {span(5, 9)}}}
	for name, call := range map[string]func(a, b api.Inked) (api.Inked, api.Errno){"Both": paper.Both, "Either": paper.Either} {
		first, _ := call(a, b)
		again, _ := call(a, b)
		for _, l := range first.Columns {
			for i := range l {
				l[i] = span(77, 77)
			}
			_ = append(l[:len(l):cap(l)], span(88, 88))
		}
		if third, _ := call(a, b); !sameInk(third, again) {
			t.Error(name, third, again)
		}
	}
	if a.Columns[0][0] != span(1, 2) || b.Columns[1][0] != span(3, 4) || a.Columns[2][0] != span(5, 9) {
		t.Error(a, b)
	}
	l, blots := []api.Point{{X: 50, Y: 9}, {X: 50, Y: 5}}, []int{1, 3}
	if _, e := paper.Ink(straight(), l, blots); e != api.OK || l[0].Y != 9 || l[1].Y != 5 || !slices.Equal(blots, []int{1, 3}) {
		t.Error(e, l, blots)
	}
}
