package archive_test

import (
	"math"
	"slices"
	"testing"

	"aneroid/api"
	"aneroid/archive"
)

// lastDay is behind the days of all notes of the sets of dice. (Names of the clerks from 4 on are none that these have, or refer to.)
const lastDay = 50

func fold(b api.Base, l []api.Note) api.Register { return must(archive.Fold(b, l)) }

// but returns a register without its conflicts.
func but(r api.Register) api.Register {
	r.Conflicts = nil
	return r
}

// split returns some notes of a set, of which now and then one is another one.
func (d dice) split(l []api.Note) []api.Note {
	var some []api.Note
	for _, n := range l {
		if d.IntN(3) == 0 {
			continue
		}
		if d.IntN(30) == 0 {
			n.Day++
		}
		some = append(some, n)
	}
	return some
}

// TestUnion is P6.2.
func TestUnion(t *testing.T) {
	x := newDice(11)
	forks, unions := 0, 0
	for range 2000 {
		b, l := base(), x.set(10)
		p, q, r := x.split(l), x.split(l), x.split(l)
		pq, e := archive.Merge(b, p, q)
		qp, f := archive.Merge(b, q, p)
		_, g := archive.Fork(b, p, q)
		if e != f || !same(pq, qp) || (e == api.ErrFork) != (g == api.OK) || e == api.OK && g != api.ErrNone {
			t.Fatal(l, p, q, e, f, g)
		}
		expect(t, must(archive.Merge(b, p, p)), api.OK, p)
		if e != api.OK {
			forks++
			continue
		}
		mustSet(t, b, pq)
		left, e := archive.Merge(b, pq, r)
		qr, f := archive.Merge(b, q, r)
		if f == api.OK {
			right, f := archive.Merge(b, p, qr)
			if e != f || !same(left, right) {
				t.Fatal(p, q, r, e, f)
			}
			unions++
		} else if e == api.OK {
			t.Fatal(p, q, r)
		}
		for _, n := range slices.Concat(p, q) {
			if !slices.ContainsFunc(pq, func(y api.Note) bool { return archive.Same(n, y) }) {
				t.Fatal(p, q, pq)
			}
		}
		for _, n := range pq {
			if !slices.ContainsFunc(slices.Concat(p, q), func(y api.Note) bool { return archive.Same(n, y) }) {
				t.Fatal(p, q, pq)
			}
		}
	}
	enough(t, forks, 200)
	enough(t, unions, 200)
}

// TestWhatWasKnown is P6.3.
func TestWhatWasKnown(t *testing.T) {
	x := newDice(12)
	for range 1000 {
		b, l := base(), x.set(14)
		now := fold(b, l)
		for _, c := range [][2]int{{3, 3}, {10000, 1 << 40}, {math.MaxInt, math.MaxInt}, {3, math.MaxInt}} {
			expect(t, must(archive.AsOf(b, l, c[0], c[1])), api.OK, now)
		}
		day, clock := x.from(0, 3), x.from(1, 3)
		known := must(archive.AsOf(b, l, day, clock))
		var further []api.Note
		for i := range x.from(1, 5) {
			n := x.note(name(4, i+1), l, []api.Name{name(1, 1), name(4, 1), name(2, 2)})
			if x.IntN(2) == 0 {
				n.Day, n.Clock = day+x.from(1, 5), x.from(1, 9)
			} else {
				n.Day, n.Clock = x.from(0, 9), clock+x.from(1, 5)
			}
			further = append(further, n)
		}
		expect(t, must(archive.AsOf(b, with(l, further...), day, clock)), api.OK, known)
	}
}

// TestOneArchive is P6.4.
func TestOneArchive(t *testing.T) {
	x := newDice(13)
	sheets, marks := 0, 0
	for range 1500 {
		b, l := base(), x.set(18)
		stand := must(archive.Stands(b, l))
		find := func(n api.Name) api.Note {
			i := slices.IndexFunc(l, func(y api.Note) bool { return nameOf(y) == n })
			if i < 0 || !slices.Contains(stand, n) {
				t.Fatal(l, n)
			}
			return l[i]
		}
		seen := map[any]bool{}
		for _, f := range fold(b, l).Sheets {
			at := [2]int{f.Station, f.Week}
			n := find(f.Name)
			if seen[f.Name] || seen[at] || n.Kind != api.NoteSheet || !same(n.Sheet, f.Sheet) || len(f.Marks) != len(f.Names) {
				t.Fatal(l, f)
			}
			seen[f.Name], seen[at] = true, true
			sheets++
			for i, m := range f.Marks {
				n := find(f.Names[i])
				if n.Kind != api.NoteMark || n.Ref != f.Name || m.Column < 0 || m.Column > len(f.Sheet.Drum.Rates) || m.Ticks.Lo > m.Ticks.Hi {
					t.Fatal(l, f)
				}
				marks++
			}
		}
	}
	enough(t, sheets, 1000)
	enough(t, marks, 500)
}

// TestFilingsAndCorrections is P6.5.
func TestFilingsAndCorrections(t *testing.T) {
	x := newDice(14)
	changed := map[int]int{}
	for range 1500 {
		b, l := base(), x.set(18)
		r := fold(b, l)
		find := func(n api.Name) api.Note {
			return l[slices.IndexFunc(l, func(y api.Note) bool { return nameOf(y) == n })]
		}
		// known returns the note that tells how the note with a name is known.
		known := func(n api.Name) api.Note {
			told := find(n)
			for _, c := range must(archive.Chain(b, l, n)) {
				if !slices.Contains(r.Conflicts, c) {
					told = find(c)
				}
			}
			changed[told.Kind]++
			return told
		}
		for _, f := range r.Sheets {
			if n := known(f.Name); n.Station != f.Station || n.Week != f.Week {
				t.Fatal(l, f)
			}
			for i, m := range f.Marks {
				if known(f.Names[i]).Mark != m {
					t.Fatal(l, f)
				}
			}
		}
		var reads []api.Read
		for _, n := range must(archive.Stands(b, l)) {
			if find(n).Kind == api.NoteRead {
				reads = append(reads, known(n).Read)
			}
		}
		expect(t, r.Reads, api.OK, reads)
	}
	enough(t, changed[api.NoteFile], 100)
	enough(t, changed[api.NoteCorrect], 100)
}

// TestWithdrawals is P6.6.
func TestWithdrawals(t *testing.T) {
	x := newDice(15)
	for range 1500 {
		b, l := base(), x.set(14)
		if len(l) == 0 {
			continue
		}
		n := l[x.IntN(len(l))]
		if n.Kind == api.NoteWithdraw {
			continue
		}
		w := note(8, 400, x.from(0, 9), api.NoteWithdraw, on(n.Clerk, n.Num), at(x.from(1, 9)))
		expect(t, but(fold(b, with(l, w))), api.OK, but(fold(b, without(l, nameOf(n)))))
	}
}

// TestSecondSheets is P6.7.
func TestSecondSheets(t *testing.T) {
	x := newDice(16)
	seen := 0
	for range 1500 {
		b, l := base(), x.set(14)
		r := fold(b, l)
		for _, f := range r.Sheets {
			n := note(4, 1, lastDay, api.NoteSheet, charted(sheet(3)), under(f.Station, f.Week))
			with := fold(b, with(l, n))
			if !same(but(with), but(r)) || !same(with.Conflicts, sorted(append(r.Conflicts, name(4, 1)), lessName)) {
				t.Fatal(l, f)
			}
			seen++
		}
	}
	enough(t, seen, 500)
}

// TestWeeks is P6.8.
func TestWeeks(t *testing.T) {
	x := newDice(17)
	for range 1500 {
		b, l := base(), x.set(18)
		r := fold(b, l)
		sheets, reads := 0, 0
		for _, week := range must(archive.Weeks(r)) {
			w := must(archive.WeekOf(b, r, week))
			sheets += len(w.Sheets)
			reads += len(w.Reads)
			if w.Week != week || len(w.Sheets)+len(w.Reads) == 0 || !same(w.Base.Stations, r.Stations) {
				t.Fatal(l, w)
			}
			for _, s := range b.Stations {
				i := slices.IndexFunc(w.Sheets, func(f api.Filed) bool { return f.Station == s.ID })
				k, e := archive.SheetOf(r, s.ID, week)
				if (i < 0) != (e == api.ErrNone) || i >= 0 && !same(w.Sheets[i], r.Sheets[k]) {
					t.Fatal(l, w)
				}
			}
			for _, f := range w.Sheets {
				k := must(archive.SheetBy(r, f.Name))
				if f.Week != week || !same(f, r.Sheets[k]) {
					t.Fatal(l, f)
				}
			}
			var some []api.Read
			for _, y := range r.Reads {
				if y.Week == week {
					some = append(some, y)
				}
			}
			expect(t, w.Reads, api.OK, some)
		}
		if sheets != len(r.Sheets) || reads != len(r.Reads) {
			t.Fatal(l, sheets, reads)
		}
	}
}

// TestOrder is P6.9.
func TestOrder(t *testing.T) {
	x := newDice(18)
	for range 600 {
		b, l := base(), x.set(10)
		for _, p := range l {
			for _, q := range l {
				if archive.Before(p, q) != ahead(p, q) || nameOf(p) != nameOf(q) && archive.Before(p, q) == archive.Before(q, p) || archive.Before(p, p) {
					t.Fatal(p, q)
				}
				for _, r := range l {
					if archive.Before(p, q) && archive.Before(q, r) && !archive.Before(p, r) {
						t.Fatal(p, q, r)
					}
				}
			}
		}
		var before *api.Note
		for _, n := range must(archive.Stands(b, l)) {
			i := slices.IndexFunc(l, func(y api.Note) bool { return nameOf(y) == n })
			if before != nil && !archive.Before(*before, l[i]) {
				t.Fatal(l, n)
			}
			before = &l[i]
		}
	}
}

// TestFurtherNotes is P6.10.
func TestFurtherNotes(t *testing.T) {
	x := newDice(19)
	in, out := 0, 0
	for range 2000 {
		b, l := base(), x.set(14)
		r := fold(b, l)
		further := x.reading()
		want := r
		want.Reads = append(slices.Clone(r.Reads), further)
		expect(t, fold(b, with(l, note(4, 1, lastDay, api.NoteRead, showing(further)))), api.OK, want)
		for _, n := range l {
			mark := note(4, 1, lastDay, api.NoteMark, on(n.Clerk, n.Num), x.mark())
			got := fold(b, with(l, mark))
			if slices.Contains(got.Conflicts, name(4, 1)) {
				continue
			}
			want := fold(b, l)
			if i, e := archive.SheetBy(r, nameOf(n)); e == api.OK {
				f := &want.Sheets[i]
				f.Marks, f.Names = append(f.Marks, mark.Mark), append(f.Names, name(4, 1))
				in++
			} else {
				out++
			}
			expect(t, got, api.OK, want)
		}
	}
	enough(t, in, 500)
	enough(t, out, 100)
}

// TestFiledAgain is P6.11.
func TestFiledAgain(t *testing.T) {
	x := newDice(20)
	seen := 0
	for range 2000 {
		b, l := base(), x.set(14)
		want := fold(b, l)
		station, week := x.station(), x.from(0, 4)
		_, e := archive.SheetOf(want, station, week)
		isConflict := func(n api.Note) bool {
			return n.Kind == api.NoteSheet && slices.Contains(want.Conflicts, nameOf(n))
		}
		if e == api.OK || len(want.Sheets) == 0 || slices.ContainsFunc(l, isConflict) {
			continue
		}
		f := &want.Sheets[x.IntN(len(want.Sheets))]
		f.Station, f.Week = station, week
		expect(t, fold(b, with(l, note(4, 1, lastDay, api.NoteFile, on(f.Name.Clerk, f.Name.Num), under(station, week)))), api.OK, want)
		seen++
	}
	enough(t, seen, 500)
}

// TestStations is P6.12.
func TestStations(t *testing.T) {
	x := newDice(21)
	moved := 0
	for range 1500 {
		b, l := base(), x.set(18)
		r := fold(b, l)
		if len(r.Stations) != len(b.Stations) {
			t.Fatal(l, r.Stations)
		}
		var noted []api.Note
		for _, n := range l {
			if n.Kind == api.NoteHeight && stands(l, n) {
				noted = append(noted, n)
			}
		}
		for i, s := range r.Stations {
			of := b.Stations[i]
			if s.ID != of.ID || s.X != of.X || s.Y != of.Y || len(noted) == 0 && !same(s, of) {
				t.Fatal(l, s)
			}
			for _, h := range of.Heights {
				if !slices.Contains(s.Heights, h) {
					t.Fatal(l, s)
				}
			}
			for _, h := range s.Heights {
				if slices.Contains(of.Heights, h) {
					continue
				}
				moved++
				if !slices.ContainsFunc(noted, func(n api.Note) bool { return n.Station == s.ID && n.Height == h }) {
					t.Fatal(l, s)
				}
			}
			told := must(archive.StationOf(b, r, s.ID))
			expect(t, told, api.OK, s)
		}
	}
	enough(t, moved, 300)
}
