package archive_test

import (
	"math"
	"strings"
	"testing"

	"aneroid/api"
	"aneroid/archive"
)

// badBases are bases with one fault each.
func badBases() []api.Base {
	var l []api.Base
	for _, spoil := range []func(b *api.Base){
		func(b *api.Base) { b.Stations[0].ID = 0 },
		func(b *api.Base) { b.Stations[1].ID = 5 },
		func(b *api.Base) { b.Stations[2].X = 2001 },
		func(b *api.Base) { b.Stations[1].Heights = nil },
		func(b *api.Base) { b.Stations = make([]api.Station, api.MaxStations+1) },
		func(b *api.Base) { b.Wind.Fixed = -1 },
		func(b *api.Base) { b.Wind.Each = 10001 },
		func(b *api.Base) { b.Ticks, b.Term = 0, 0 },
		func(b *api.Base) { b.Ticks = api.MaxTicks + 1 },
		func(b *api.Base) { b.Ticks, b.Term = math.MinInt, math.MinInt },
		func(b *api.Base) { b.Ticks = math.MaxInt },
		func(b *api.Base) { b.Term = -1 },
		func(b *api.Base) { b.Term = 101 },
		func(b *api.Base) { b.Term = math.MinInt },
		func(b *api.Base) { b.Clerks = 0 },
		func(b *api.Base) { b.Clerks = api.MaxClerks + 1 },
		func(b *api.Base) { b.Clerks = math.MaxInt },
	} {
		b := base()
		spoil(&b)
		l = append(l, b)
	}
	return l
}

func TestCheckBase(t *testing.T) {
	least, greatest, alone := base(), base(), base()
	least.Ticks, least.Term, least.Clerks, least.Wind = 1, 0, 1, api.Wind{}
	greatest.Ticks, greatest.Term, greatest.Clerks, greatest.Wind = 400, 400, 8, api.Wind{Fixed: 12000, Each: 10000}
	alone.Stations = nil
	for i, b := range []api.Base{base(), exampleBase(), least, greatest, alone} {
		if e := archive.CheckBase(b); e != api.OK {
			t.Error(i, e)
		}
	}
	for i, b := range badBases() {
		if e := archive.CheckBase(b); e != api.ErrBase {
			t.Error(i, e)
		}
	}
}

func TestCheckNote(t *testing.T) {
	for _, n := range kinds() {
		if e := archive.CheckNote(exampleBase(), n); e != api.OK {
			t.Error(n, e)
		}
		// The clerks of the base are not asked for: names are right up to MaxClerks.
		n.Clerk = api.MaxClerks
		n.Sheet.Trace = append([]api.Point{}, n.Sheet.Trace...)
		n.Sheet.Drum.Rates = append([]api.Span{}, n.Sheet.Drum.Rates...)
		if e := archive.CheckNote(exampleBase(), n); e != api.OK {
			t.Error(n, e)
		}
		for _, spoil := range badHeads() {
			bad := n
			spoil(&bad)
			if e := archive.CheckNote(exampleBase(), bad); e != api.ErrNote {
				t.Error(bad, e)
			}
		}
	}
}

// badHeads make any note one that is not well-formed.
func badHeads() []change {
	var l []change
	for _, kind := range []int{0, 8, -1, math.MinInt, math.MaxInt} {
		l = append(l, func(n *api.Note) { n.Kind = kind })
	}
	for _, clerk := range []int{0, 9, -1, math.MinInt, math.MaxInt} {
		l = append(l, func(n *api.Note) { n.Clerk = clerk })
	}
	for _, num := range []int{0, 401, -1, math.MinInt, math.MaxInt} {
		l = append(l, func(n *api.Note) { n.Num = num })
	}
	for _, clock := range []int{0, 1<<40 + 1, -1, math.MinInt, math.MaxInt} {
		l = append(l, func(n *api.Note) { n.Clock = clock })
	}
	for _, day := range []int{-1, 10001, math.MinInt, math.MaxInt} {
		l = append(l, func(n *api.Note) { n.Day = day })
	}
	return l
}

// TestCheckNoteOfOtherFields checks that fields that the table does not name must be 0 or empty.
func TestCheckNoteOfOtherFields(t *testing.T) {
	used := map[int]string{
		api.NoteSheet: "station week sheet", api.NoteMark: "ref mark", api.NoteRead: "read", api.NoteHeight: "station height",
		api.NoteFile: "ref station week", api.NoteCorrect: "ref mark read", api.NoteWithdraw: "ref",
	}
	fields := map[string][]change{
		"station": {func(n *api.Note) { n.Station = 5 }, func(n *api.Note) { n.Station = -1 }},
		"week":    {func(n *api.Note) { n.Week = 1 }, func(n *api.Note) { n.Week = math.MinInt }},
		"mark": {
			func(n *api.Note) { n.Mark.Column = 1 }, func(n *api.Note) { n.Mark.Ticks.Hi = 1 }, func(n *api.Note) { n.Mark.Ticks.Lo = -1 },
		},
		"read": {
			func(n *api.Note) { n.Read.Station = 5 }, func(n *api.Note) { n.Read.Week = 1 }, func(n *api.Note) { n.Read.Tick = 1 },
			func(n *api.Note) { n.Read.Levels.Hi = 1 }, func(n *api.Note) { n.Read.Levels.Lo = -1 },
		},
		"height": {
			func(n *api.Note) { n.Height.Week = 1 }, func(n *api.Note) { n.Height.Metres.Hi = 1 }, func(n *api.Note) { n.Height.Metres.Lo = -1 },
		},
		"ref": {func(n *api.Note) { n.Ref.Clerk = 1 }, func(n *api.Note) { n.Ref.Num = 1 }, on(2, 2)},
		"sheet": {
			charted(sheet(3)),
			func(n *api.Note) { n.Sheet.Paper.Columns = 1 }, func(n *api.Note) { n.Sheet.Paper.Across.Lo = 1 },
			func(n *api.Note) { n.Sheet.Trace = make([]api.Point, 1) }, func(n *api.Note) { n.Sheet.Blots = make([]int, 1) },
			func(n *api.Note) { n.Sheet.Drum.Rates = make([]api.Span, 1) }, func(n *api.Note) { n.Sheet.Drum.Stops = make([]api.Stop, 1) },
			func(n *api.Note) { n.Sheet.Pen.Band = 1 }, func(n *api.Note) { n.Sheet.Pen.Zero.Lo = -1 },
		},
	}
	for _, n := range kinds() {
		for field, changes := range fields {
			if strings.Contains(used[n.Kind], field) {
				continue
			}
			for i, c := range changes {
				bad := n
				c(&bad)
				if e := archive.CheckNote(exampleBase(), bad); e != api.ErrNote {
					t.Error(n.Kind, field, i, e)
				}
			}
		}
		// Lists without elements are empty.
		if n.Kind != api.NoteSheet {
			n.Sheet.Trace, n.Sheet.Blots, n.Sheet.Drum = []api.Point{}, []int{}, api.Drum{Rates: []api.Span{}, Stops: []api.Stop{}}
			if e := archive.CheckNote(exampleBase(), n); e != api.OK {
				t.Error(n.Kind, e)
			}
		}
	}
}

func TestCheckNoteOfContent(t *testing.T) {
	bad := map[int][]change{}
	add := func(c change, kinds ...int) {
		for _, kind := range kinds {
			bad[kind] = append(bad[kind], c)
		}
	}
	for _, n := range []int{0, 4, 6, -5, math.MinInt, math.MaxInt} {
		add(func(x *api.Note) { x.Station = n }, api.NoteSheet, api.NoteHeight, api.NoteFile)
		add(func(x *api.Note) { x.Read.Station = n }, api.NoteRead)
	}
	for _, n := range []int{-1, 10001, math.MinInt, math.MaxInt} {
		add(func(x *api.Note) { x.Week = n }, api.NoteSheet, api.NoteFile)
		add(func(x *api.Note) { x.Read.Week = n }, api.NoteRead)
		add(func(x *api.Note) { x.Height.Week = n }, api.NoteHeight)
	}
	refers := []int{api.NoteMark, api.NoteFile, api.NoteCorrect, api.NoteWithdraw}
	for _, n := range []int{0, 9, -1, math.MinInt, math.MaxInt} {
		add(func(x *api.Note) { x.Ref.Clerk = n }, refers...)
	}
	for _, n := range []int{0, 401, -1, math.MinInt, math.MaxInt} {
		add(func(x *api.Note) { x.Ref.Num = n }, refers...)
	}
	for _, n := range []int{-1, 200, math.MinInt, math.MaxInt} {
		add(marked(n, 0, 0), api.NoteMark)
	}
	for _, n := range []int{-1, 101, math.MinInt, math.MaxInt} {
		add(func(x *api.Note) { x.Read.Tick = n }, api.NoteRead)
	}
	for _, s := range []api.Span{span(-1, 0), span(1, 0), span(math.MinInt, math.MaxInt), span(math.MaxInt, math.MinInt)} {
		add(func(x *api.Note) { x.Mark.Ticks = s }, api.NoteMark)
		add(func(x *api.Note) { x.Read.Levels = s }, api.NoteRead)
		add(func(x *api.Note) { x.Height.Metres = s }, api.NoteHeight)
	}
	add(func(x *api.Note) { x.Mark.Ticks.Hi = 401 }, api.NoteMark)
	add(func(x *api.Note) { x.Read.Levels.Hi = 12001 }, api.NoteRead)
	add(func(x *api.Note) { x.Height.Metres.Hi = 4001 }, api.NoteHeight)
	for _, n := range kinds() {
		for i, c := range bad[n.Kind] {
			x := n
			c(&x)
			if e := archive.CheckNote(exampleBase(), x); e != api.ErrNote {
				t.Error(n.Kind, i, e)
			}
		}
	}
}

func TestCheckNoteOfCorrections(t *testing.T) {
	for i, c := range []struct {
		read api.Read
		mark api.Mark
		ok   bool
	}{
		{api.Read{}, api.Mark{}, true}, // the column 0 at the tick 0
		{api.Read{}, markAt(199, 400, 400), true},
		{read(5, 0, 0, 0, 0), api.Mark{}, true},
		{read(5, 10000, 100, 0, 12000), api.Mark{}, true},
		{read(5, 0, 0, 0, 0), markAt(0, 0, 1), false},
		{read(5, 0, 0, 0, 0), markAt(1, 0, 0), false},
		{read(0, 1, 0, 0, 0), markAt(1, 2, 3), false},
		{read(0, 0, 1, 0, 0), markAt(1, 2, 3), false},
		{read(0, 0, 0, 0, 1), api.Mark{}, false},
		{read(6, 0, 0, 0, 0), api.Mark{}, false},
		{read(-1, 0, 0, 0, 0), api.Mark{}, false},
		{read(5, 10001, 0, 0, 0), api.Mark{}, false},
		{read(5, 0, 101, 0, 0), api.Mark{}, false},
		{read(5, 0, 0, 2, 1), api.Mark{}, false},
		{api.Read{}, markAt(200, 0, 0), false},
		{api.Read{}, markAt(-1, 0, 0), false},
		{api.Read{}, markAt(0, 0, 401), false},
		{api.Read{}, markAt(0, 3, 2), false},
	} {
		n := note(1, 1, 0, api.NoteCorrect, on(2, 3), showing(c.read))
		n.Mark = c.mark
		want := api.ErrNote
		if c.ok {
			want = api.OK
		}
		if e := archive.CheckNote(exampleBase(), n); e != want {
			t.Error(i, e)
		}
	}
}

func TestCheckNoteOfSheets(t *testing.T) {
	right := []func(s *api.Sheet){
		func(s *api.Sheet) { s.Trace, s.Blots, s.Drum.Stops = nil, nil, nil },
		func(s *api.Sheet) { s.Trace, s.Blots, s.Drum.Stops = []api.Point{}, []int{}, []api.Stop{} },
		func(s *api.Sheet) { s.Blots = []int{0, 1, 2} },
		func(s *api.Sheet) { s.Trace = make([]api.Point, api.MaxPoints) },
		func(s *api.Sheet) { *s = sheet(200) },
		func(s *api.Sheet) { *s = sheet(2) },
	}
	for i, change := range right {
		s := sheet(3)
		change(&s)
		if e := archive.CheckNote(exampleBase(), note(1, 1, 0, api.NoteSheet, charted(s), under(5, 1))); e != api.OK {
			t.Error(i, e)
		}
	}
	wrong := []func(s *api.Sheet){
		func(s *api.Sheet) { *s = api.Sheet{} },
		func(s *api.Sheet) { s.Paper.Pitch = 0 },
		func(s *api.Sheet) { s.Paper.Columns = 0 },
		func(s *api.Sheet) { s.Paper.Columns = 2; s.Blots = nil },
		func(s *api.Sheet) { s.Paper.Columns = 4 },
		func(s *api.Sheet) { s.Paper.Columns = math.MinInt },
		func(s *api.Sheet) { s.Trace[1].X = -1 },
		func(s *api.Sheet) { s.Trace = make([]api.Point, api.MaxPoints+1) },
		func(s *api.Sheet) { s.Blots = []int{-1} },
		func(s *api.Sheet) { s.Blots = []int{3} },
		func(s *api.Sheet) { s.Blots = []int{1, 1} },
		func(s *api.Sheet) { s.Blots = []int{2, 1} },
		func(s *api.Sheet) { s.Blots = []int{0, math.MaxInt} },
		func(s *api.Sheet) { s.Blots = []int{math.MinInt, 0} },
		func(s *api.Sheet) { s.Blots = []int{0, math.MaxInt, math.MinInt} },
		func(s *api.Sheet) { s.Drum.Rates = nil },
		func(s *api.Sheet) { s.Drum.Rates = s.Drum.Rates[:1] },
		func(s *api.Sheet) { s.Drum.Rates[0].Lo = 0 },
		func(s *api.Sheet) { s.Drum.Stops[0].Column = 2 },
		func(s *api.Sheet) { *s = sheet(201) },
		func(s *api.Sheet) { *s = sheet(1); s.Blots = nil },
		func(s *api.Sheet) { s.Pen.Band = 9 },
		func(s *api.Sheet) { s.Pen.Zero = span(1, 0) },
	}
	for i, change := range wrong {
		s := sheet(3)
		change(&s)
		if e := archive.CheckNote(exampleBase(), note(1, 1, 0, api.NoteSheet, charted(s), under(5, 1))); e != api.ErrNote {
			t.Error(i, e)
		}
	}
}

func TestCheckSet(t *testing.T) {
	bad := note(1, 3, 0, api.NoteRead)
	for i, c := range []struct {
		l  []api.Note
		e  api.Errno
		at int
	}{
		{nil, api.OK, 0},
		{[]api.Note{}, api.OK, 0},
		{example(), api.OK, 0},
		{readsOf(400), api.OK, 0},
		{readsOf(401), api.ErrLimit, 0},
		{make([]api.Note, 401), api.ErrLimit, 0},
		{make([]api.Note, 400), api.ErrNote, 0},
		{[]api.Note{bad}, api.ErrNote, 0},
		{append(example()[:2], bad), api.ErrNote, 2},
		{append(example()[:3], bad), api.ErrNote, 3},
		{append(example(), example()[4]), api.ErrFork, 5},
		{append(example(), note(1, 5, 0, api.NoteWithdraw, on(1, 1))), api.ErrFork, 5},
		{append(example(), example()[3]), api.ErrArg, 5},
		{append(example(), example()[0], bad), api.ErrArg, 5},
		{[]api.Note{note(2, 1, 0, api.NoteWithdraw, on(1, 1)), note(1, 2, 9, api.NoteWithdraw, on(1, 1)), bad}, api.ErrArg, 1},
		{[]api.Note{note(1, 2, 9, api.NoteWithdraw, on(1, 1)), note(2, 1, 0, api.NoteWithdraw, on(1, 1))}, api.OK, 0},
		{append(example(), example()[4], bad), api.ErrFork, 5},
	} {
		if e, at := archive.CheckSet(exampleBase(), c.l); e != c.e || at != c.at {
			t.Error(i, e, at)
		}
	}
}

func TestBefore(t *testing.T) {
	plain := note(2, 2, 2, api.NoteWithdraw, at(2))
	for i, c := range []change{
		func(n *api.Note) { n.Num = 1 },
		func(n *api.Note) { n.Num = math.MinInt },
		func(n *api.Note) { n.Clerk, n.Num = 1, 9 },
		func(n *api.Note) { n.Clerk, n.Num = math.MinInt, math.MaxInt },
		func(n *api.Note) { n.Clock, n.Clerk, n.Num = 1, 9, 9 },
		func(n *api.Note) { n.Day, n.Clock, n.Clerk, n.Num = 1, 9, 9, 9 },
		func(n *api.Note) { n.Day, n.Clock = math.MinInt, math.MaxInt },
	} {
		first := plain
		c(&first)
		if !archive.Before(first, plain) || archive.Before(plain, first) || archive.Before(first, first) {
			t.Error(i)
		}
	}
	other := note(2, 2, 2, api.NoteRead, at(2), under(1, 1), showing(read(1, 1, 1, 1, 1)), on(3, 3))
	if archive.Before(plain, other) || archive.Before(other, plain) {
		t.Error("what notes say does not matter")
	}
	low, high := api.Note{Day: math.MinInt}, api.Note{Day: math.MaxInt}
	if !archive.Before(low, high) || archive.Before(high, low) {
		t.Error("numbers of any size")
	}
}

func TestSame(t *testing.T) {
	full := func() api.Note {
		n := note(1, 2, 3, 4, charted(sheet(3)), marked(1, 2, 3), showing(read(1, 2, 3, 4, 5)), on(1, 2), under(3, 4))
		n.Height = height(1, 2, 3)
		return n
	}
	if !archive.Same(full(), full()) || !archive.Same(api.Note{}, api.Note{}) {
		t.Error("equal notes are the same")
	}
	for i, c := range []change{
		func(n *api.Note) { n.Clerk++ }, func(n *api.Note) { n.Num++ }, func(n *api.Note) { n.Clock++ }, func(n *api.Note) { n.Day++ },
		func(n *api.Note) { n.Kind++ }, func(n *api.Note) { n.Station++ }, func(n *api.Note) { n.Week++ },
		func(n *api.Note) { n.Sheet.Paper.Pitch++ }, func(n *api.Note) { n.Sheet.Paper.Across.Hi++ },
		func(n *api.Note) { n.Sheet.Trace[1].Half++ }, func(n *api.Note) { n.Sheet.Trace = n.Sheet.Trace[:1] }, func(n *api.Note) { n.Sheet.Trace = nil },
		func(n *api.Note) { n.Sheet.Blots[1]++ }, func(n *api.Note) { n.Sheet.Blots = nil },
		func(n *api.Note) { n.Sheet.Drum.Rates[1].Hi++ }, func(n *api.Note) { n.Sheet.Drum.Rates = nil },
		func(n *api.Note) { n.Sheet.Drum.Stops[0].Ticks.Lo++ }, func(n *api.Note) { n.Sheet.Drum.Stops[0].Column++ },
		func(n *api.Note) { n.Sheet.Drum.Stops = append(n.Sheet.Drum.Stops, api.Stop{}) },
		func(n *api.Note) { n.Sheet.Pen.Band++ }, func(n *api.Note) { n.Sheet.Pen.Zero.Lo++ }, func(n *api.Note) { n.Sheet.Pen.Rate++ },
		func(n *api.Note) { n.Mark.Column++ }, func(n *api.Note) { n.Mark.Ticks.Lo++ }, func(n *api.Note) { n.Mark.Ticks.Hi++ },
		func(n *api.Note) { n.Read.Station++ }, func(n *api.Note) { n.Read.Week++ }, func(n *api.Note) { n.Read.Tick++ }, func(n *api.Note) { n.Read.Levels.Hi++ },
		func(n *api.Note) { n.Height.Week++ }, func(n *api.Note) { n.Height.Metres.Lo++ }, func(n *api.Note) { n.Ref.Clerk++ }, func(n *api.Note) { n.Ref.Num++ },
	} {
		other := full()
		c(&other)
		if archive.Same(full(), other) || archive.Same(other, full()) {
			t.Error(i)
		}
	}
	none, empty := full(), full()
	none.Sheet.Trace, none.Sheet.Blots, none.Sheet.Drum = nil, nil, api.Drum{}
	empty.Sheet.Trace, empty.Sheet.Blots, empty.Sheet.Drum = []api.Point{}, []int{}, api.Drum{Rates: []api.Span{}, Stops: []api.Stop{}}
	if !archive.Same(none, empty) || !archive.Same(empty, none) {
		t.Error("an empty list and none are equal")
	}
}
