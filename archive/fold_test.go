package archive_test

import (
	"math"
	"testing"

	"aneroid/api"
	"aneroid/archive"
)

// filed is the sheet of the examples, filed under the station 5.
func filed(week int, marks []api.Mark, names ...api.Name) api.Filed {
	return api.Filed{Name: name(1, 1), Station: 5, Week: week, Sheet: sheet(3), Marks: marks, Names: names}
}

func TestExamples(t *testing.T) {
	b := exampleBase()
	corrected, noted := []api.Mark{markAt(0, 5, 6)}, []api.Mark{markAt(0, 4, 6)}
	r, e := archive.Fold(b, example())
	expect(t, r, e, api.Register{
		Sheets:   []api.Filed{filed(4, corrected, name(1, 2))},
		Reads:    []api.Read{read(5, 3, 20, 10000, 10010)},
		Stations: b.Stations,
	})
	weeks, e := archive.Weeks(r)
	expect(t, weeks, e, []int{3, 4})
	w, e := archive.WeekOf(b, r, 3)
	expect(t, w, e, api.Week{Base: b, Week: 3, Reads: r.Reads})
	_, e = archive.StationOf(b, r, 6)
	if e != api.ErrNone {
		t.Error(e)
	}
	for _, c := range []struct {
		day  int
		want api.Filed
	}{{13, filed(3, corrected, name(1, 2))}, {11, filed(3, noted, name(1, 2))}, {10, filed(3, nil)}, {14, r.Sheets[0]}} {
		x, e := archive.AsOf(b, example(), c.day, 100)
		expect(t, x.Sheets, e, []api.Filed{c.want})
	}
	names, e := archive.Chain(b, example(), name(1, 1))
	expect(t, names, e, []api.Name{name(1, 5)})
	names, e = archive.Chain(b, example(), name(1, 2))
	expect(t, names, e, []api.Name{name(1, 4)})
	_, e = archive.Chain(b, example(), name(1, 4))
	if e != api.ErrNone {
		t.Error(e)
	}
}

// TestExamplesWithFurtherNotes are the examples' rows that begin with 'with'.
func TestExamplesWithFurtherNotes(t *testing.T) {
	b := exampleBase()
	before := must(archive.Fold(b, example()))
	fold := func(n api.Note) api.Register { return must(archive.Fold(b, with(example(), n))) }
	for _, n := range []api.Note{
		note(1, 6, 15, api.NoteMark, on(1, 1), marked(3, 1, 1)),
		note(1, 6, 15, api.NoteSheet, charted(sheet(3)), under(5, 4)),
	} {
		want := before
		want.Conflicts = []api.Name{name(1, 6)}
		expect(t, fold(n), api.OK, want)
	}
	early := fold(note(1, 6, 9, api.NoteSheet, charted(sheet(4)), under(5, 4)))
	expect(t, early.Conflicts, api.OK, []api.Name{name(1, 1)})
	expect(t, early.Sheets, api.OK, []api.Filed{{Name: name(1, 6), Station: 5, Week: 4, Sheet: sheet(4)}})
	gone := fold(note(1, 6, 15, api.NoteWithdraw, on(1, 1)))
	expect(t, gone.Conflicts, api.OK, []api.Name{name(1, 2), name(1, 4), name(1, 5)})
	expect(t, gone.Sheets, api.OK, nil)
	expect(t, gone.Reads, api.OK, before.Reads)
	back := fold(note(1, 6, 0, api.NoteWithdraw, on(1, 5)))
	expect(t, back.Sheets, api.OK, []api.Filed{filed(3, []api.Mark{markAt(0, 5, 6)}, name(1, 2))})
	expect(t, back.Conflicts, api.OK, nil)
}

// conflictsOf are the conflicts of the example with further notes.
func conflictsOf(notes ...api.Note) []api.Name {
	return must(archive.Fold(base(), with(example(), notes...))).Conflicts
}

func TestConflicts(t *testing.T) {
	for i, c := range []struct {
		n        api.Note
		conflict bool
	}{
		{note(2, 1, 20, api.NoteFile, on(1, 1), under(7, 1)), false},
		{note(2, 1, 0, api.NoteFile, on(1, 1), under(7, 1)), false}, // ahead of the sheet itself
		{note(2, 1, 20, api.NoteFile, on(1, 2), under(7, 1)), true},
		{note(2, 1, 20, api.NoteFile, on(2, 1), under(7, 1)), true},
		{note(2, 1, 20, api.NoteFile, on(3, 1), under(7, 1)), true},
		{note(2, 1, 20, api.NoteMark, on(1, 1), marked(2, 9, 9)), false},
		{note(2, 1, 0, api.NoteMark, on(1, 1), marked(2, 9, 9)), false},
		{note(2, 1, 20, api.NoteMark, on(1, 1), marked(3, 9, 9)), true},
		{note(2, 1, 20, api.NoteMark, on(1, 2), marked(0, 9, 9)), true},
		{note(2, 1, 20, api.NoteMark, on(3, 1), marked(0, 9, 9)), true},
		{note(2, 1, 20, api.NoteCorrect, on(1, 2), marked(2, 9, 9)), false},
		{note(2, 1, 20, api.NoteCorrect, on(1, 2), marked(3, 9, 9)), true},
		{note(2, 1, 20, api.NoteCorrect, on(1, 2), showing(read(5, 3, 1, 1, 1))), true},
		{note(2, 1, 20, api.NoteCorrect, on(1, 3), showing(read(7, 9, 1, 1, 1))), false},
		{note(2, 1, 0, api.NoteCorrect, on(1, 3), showing(read(7, 9, 1, 1, 1))), false},
		{note(2, 1, 20, api.NoteCorrect, on(1, 3), marked(0, 1, 1)), true},
		{note(2, 1, 20, api.NoteCorrect, on(1, 1), marked(0, 1, 1)), true},
		{note(2, 1, 20, api.NoteCorrect, on(1, 4), marked(0, 1, 1)), true},
		{note(2, 1, 20, api.NoteCorrect, on(3, 1), showing(read(5, 3, 1, 1, 1))), true},
		{note(2, 1, 20, api.NoteHeight, raised(9, height(2, 300, 500))), true},
		{note(2, 1, 20, api.NoteHeight, raised(9, height(0, 300, 500))), true},
		{note(2, 1, 20, api.NoteHeight, raised(9, height(1, 300, 500))), false},
		{note(2, 1, 20, api.NoteSheet, charted(sheet(2)), under(5, 3)), false},
		{note(2, 1, 20, api.NoteSheet, charted(sheet(2)), under(5, 4)), true},
		{note(2, 1, 20, api.NoteSheet, charted(sheet(2)), under(7, 4)), false},
		{note(2, 1, 20, api.NoteRead, showing(read(5, 3, 20, 10000, 10010))), false},
		{note(2, 1, 20, api.NoteWithdraw, on(1, 4)), false},
		{note(2, 1, 20, api.NoteWithdraw, on(3, 1)), true},
		{note(2, 1, 20, api.NoteWithdraw, on(2, 1)), true},
	} {
		var want []api.Name
		if c.conflict {
			want = []api.Name{name(2, 1)}
		}
		if got := conflictsOf(c.n); !same(got, want) {
			t.Error(i, c.n, got)
		}
	}
}

// TestConflictsOfConflicts checks what notes that refer to conflicts, and to withdrawn notes, are.
func TestConflictsOfConflicts(t *testing.T) {
	bad := note(2, 1, 11, api.NoteMark, on(1, 1), marked(3, 9, 9))
	for i, c := range []struct {
		notes []api.Note
		want  []api.Name
	}{
		// A mark that is a conflict cannot be corrected, even to a column that there is.
		{[]api.Note{bad, note(2, 2, 20, api.NoteCorrect, on(2, 1), marked(0, 1, 1))}, []api.Name{name(2, 1), name(2, 2)}},
		// A sheet that is a conflict stands: it is marked and filed, and out of the way.
		{[]api.Note{note(2, 1, 20, api.NoteSheet, charted(sheet(4)), under(5, 4)), note(2, 2, 20, api.NoteMark, on(2, 1), marked(3, 1, 1)), note(2, 3, 20, api.NoteCorrect, on(2, 2), marked(3, 1, 2))}, []api.Name{name(2, 1)}},
		{[]api.Note{note(2, 1, 20, api.NoteSheet, charted(sheet(4)), under(5, 4)), note(2, 2, 0, api.NoteFile, on(2, 1), under(5, 3))}, nil},
		// A sheet that was filed elsewhere gives way, but takes another place.
		{[]api.Note{note(2, 1, 20, api.NoteSheet, charted(sheet(4)), under(5, 3)), note(2, 2, 21, api.NoteFile, on(1, 1), under(5, 3))}, []api.Name{name(2, 1)}},
		// A withdrawn correction corrects nothing; a withdrawn mark is none.
		{[]api.Note{note(2, 1, 20, api.NoteWithdraw, on(1, 2))}, []api.Name{name(1, 4)}},
		{[]api.Note{note(2, 1, 20, api.NoteWithdraw, on(1, 3)), note(2, 2, 20, api.NoteCorrect, on(1, 3), showing(read(5, 3, 1, 1, 1)))}, []api.Name{name(2, 2)}},
		// A withdrawal cannot be withdrawn: that is a conflict, and {1, 2} stays withdrawn.
		{[]api.Note{note(2, 1, 20, api.NoteWithdraw, on(1, 2)), note(2, 2, 20, api.NoteWithdraw, on(2, 1))}, []api.Name{name(1, 4), name(2, 2)}},
		// A note may be withdrawn twice.
		{[]api.Note{note(2, 1, 20, api.NoteWithdraw, on(1, 4)), note(2, 2, 0, api.NoteWithdraw, on(1, 4))}, nil},
		// What is withdrawn is no conflict itself.
		{[]api.Note{bad, note(2, 2, 20, api.NoteWithdraw, on(2, 1))}, nil},
	} {
		if got := conflictsOf(c.notes...); !same(got, c.want) {
			t.Error(i, got)
		}
	}
}

func TestFoldOfCorrections(t *testing.T) {
	l := with(example(),
		note(2, 1, 13, api.NoteCorrect, on(1, 2), marked(2, 7, 7), at(5)),
		note(2, 2, 13, api.NoteCorrect, on(1, 2), marked(1, 7, 7), at(3)),
		note(2, 3, 30, api.NoteCorrect, on(1, 2), marked(3, 8, 8)), // a conflict
		note(2, 4, 30, api.NoteCorrect, on(1, 3), showing(read(9, 8, 7, 6, 6))),
		note(2, 5, 29, api.NoteCorrect, on(1, 3), showing(read(7, 8, 7, 6, 6))),
		note(2, 6, 1, api.NoteMark, on(1, 1), marked(1, 3, 3)),
		note(2, 7, 1, api.NoteRead, showing(read(5, 0, 0, 0, 0))),
	)
	r, e := archive.Fold(base(), l)
	expect(t, r.Sheets, e, []api.Filed{filed(4, []api.Mark{markAt(1, 3, 3), markAt(2, 7, 7)}, name(2, 6), name(1, 2))})
	expect(t, r.Reads, e, []api.Read{read(5, 0, 0, 0, 0), read(9, 8, 7, 6, 6)})
	expect(t, r.Conflicts, e, []api.Name{name(2, 3)})
}

// TestFoldOfManyMarks checks the limit of the marks of a sheet: it counts marks that are no conflicts, in the order in which they take effect.
func TestFoldOfManyMarks(t *testing.T) {
	l := []api.Note{note(1, 1, 0, api.NoteSheet, charted(sheet(3)), under(5, 1)), note(1, 2, 0, api.NoteSheet, charted(sheet(3)), under(5, 2))}
	for i := range 66 {
		l = append(l, note(2, 1+i, 100-i, api.NoteMark, on(1, 1), marked(2, i, i)))
		l = append(l, note(3, 1+i, 100-i, api.NoteMark, on(1, 1), marked(3, i, i)))
	}
	l = append(l, note(4, 1, 9, api.NoteMark, on(1, 2), marked(0, 1, 1)))
	l = append(l, note(5, 1, 200, api.NoteCorrect, on(2, 3), marked(1, 1, 1)), note(5, 2, 200, api.NoteCorrect, on(2, 2), marked(1, 1, 1)))
	l = with(l)
	r, e := archive.Fold(exampleBase(), l)
	expect(t, r, e, modelOf(exampleBase(), l).register())
	first := r.Sheets[0]
	if len(first.Marks) != 64 || first.Names[0] != name(2, 66) || first.Names[63] != name(2, 3) || first.Marks[63] != markAt(1, 1, 1) || len(r.Sheets[1].Marks) != 1 {
		t.Error(first.Names)
	}
	// Conflicts: the last two, the 66 marks on a column that there is not, and the correction of one of the former.
	if len(r.Conflicts) != 2+66+1 || r.Conflicts[0] != name(2, 1) || r.Conflicts[1] != name(2, 2) || r.Conflicts[68] != name(5, 2) {
		t.Error(r.Conflicts)
	}
	// A mark that is withdrawn makes room.
	r = must(archive.Fold(exampleBase(), with(l, note(6, 1, 0, api.NoteWithdraw, on(2, 30)))))
	if r.Sheets[0].Names[63] != name(2, 2) || r.Sheets[0].Marks[63] != markAt(1, 1, 1) || len(r.Conflicts) != 67 {
		t.Error(r.Conflicts)
	}
}

// TestFoldOfManyHeights checks the limit of the heights of a station.
func TestFoldOfManyHeights(t *testing.T) {
	var l []api.Note
	for i := range 16 {
		l = append(l, note(1, 1+i, 50-i, api.NoteHeight, raised(7, height(1+i, i, i))))
	}
	r, e := archive.Fold(base(), l)
	expect(t, r, e, modelOf(base(), l).register())
	expect(t, r.Conflicts, e, []api.Name{name(1, 1)})
	if len(r.Stations[1].Heights) != 16 || r.Stations[1].Heights[1] != height(2, 1, 1) || !same(r.Stations[0], base().Stations[0]) {
		t.Error(r.Stations)
	}
	twice := []api.Note{
		note(1, 1, 5, api.NoteHeight, raised(7, height(3, 1, 1))),
		note(1, 2, 4, api.NoteHeight, raised(7, height(3, 2, 2))),
		note(1, 3, 4, api.NoteHeight, raised(9, height(1, 3, 3))),
	}
	r, e = archive.Fold(base(), twice)
	expect(t, r.Conflicts, e, []api.Name{name(1, 1)})
	expect(t, r.Stations[1].Heights, e, []api.Height{height(0, 0, 10), height(3, 2, 2)})
	expect(t, r.Stations[2].Heights, e, []api.Height{height(0, 400, 400), height(1, 3, 3), height(2, 300, 500)})
}

func TestFoldOfNothing(t *testing.T) {
	r, e := archive.Fold(base(), nil)
	expect(t, r, e, api.Register{Stations: base().Stations})
	r, e = archive.AsOf(base(), example(), -1, 100)
	expect(t, r, e, api.Register{Stations: base().Stations})
	alone := base()
	alone.Stations = nil
	r, e = archive.Fold(alone, nil)
	expect(t, r, e, api.Register{})
}

func TestAsOf(t *testing.T) {
	b := exampleBase()
	l := with(example(), note(2, 1, 12, api.NoteWithdraw, on(1, 4), at(9)), note(2, 2, 11, api.NoteFile, on(1, 1), under(5, 8), at(7)))
	for _, c := range []struct{ day, clock int }{
		{10, 100}, {11, 6}, {11, 7}, {12, 8}, {12, 9}, {13, 8}, {13, 9}, {14, 9}, {14, 4}, {0, 0}, {9, 9}, {100, 0}, {100, 1},
		{math.MaxInt, math.MaxInt}, {math.MinInt, math.MaxInt}, {math.MaxInt, math.MinInt}, {math.MaxInt, 8}, {12, math.MaxInt},
	} {
		r, e := archive.AsOf(b, l, c.day, c.clock)
		expect(t, r, e, modelOf(b, knownBy(l, c.day, c.clock)).register())
	}
	// The withdrawal of a note that was not known yet is a conflict.
	r, e := archive.AsOf(b, l, 12, 9)
	expect(t, r.Conflicts, e, []api.Name{name(2, 1)})
}

// TestFoldExactly compares Fold with the words of the chapter.
func TestFoldExactly(t *testing.T) {
	x := newDice(1)
	seen := map[string]int{}
	for range 4000 {
		b, l := base(), x.set(18)
		mustSet(t, b, l)
		m := modelOf(b, l)
		want := m.register()
		got, e := archive.Fold(b, l)
		if e != api.OK || !same(got, want) {
			t.Fatal(l, got, want)
		}
		var names []api.Name
		for i, n := range m.order {
			names = append(names, nameOf(n))
			seen[string(rune('0'+n.Kind))+map[bool]string{true: " conflict"}[m.conflict[i]]]++
		}
		stand, e := archive.Stands(b, l)
		expect(t, stand, e, names)
		day, clock := x.from(0, 3), x.from(0, 3)
		known, e := archive.AsOf(b, l, day, clock)
		expect(t, known, e, modelOf(b, knownBy(l, day, clock)).register())
	}
	for _, kind := range []string{"1", "2", "3", "4", "5", "6", "1 conflict", "2 conflict", "4 conflict", "5 conflict", "6 conflict"} {
		enough(t, seen[kind], 300)
	}
}
