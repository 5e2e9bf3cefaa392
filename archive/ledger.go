package archive

import (
	"iter"
	"slices"

	"aneroid/api"
	"aneroid/stations"
)

// Fold returns the register of a set.
func Fold(b api.Base, l []api.Note) (api.Register, api.Errno) {
	if e := check(b, l); e != api.OK {
		return api.Register{}, e
	}
	return fold(b, l), api.OK
}

// AsOf returns the register of what was noted by a day as it was known at a time.
func AsOf(b api.Base, l []api.Note, day, clock int) (api.Register, api.Errno) {
	if e := check(b, l); e != api.OK {
		return api.Register{}, e
	}
	var known []api.Note
	for _, n := range l {
		if n.Day <= day && n.Clock <= clock {
			known = append(known, n)
		}
	}
	return fold(b, known), api.OK
}

// fold returns the register of a set that is known to be one. Each step needs what the steps ahead of it found.
func fold(b api.Base, l []api.Note) api.Register {
	k := ledgerOf(l)
	k.withdraw(l)
	k.file()
	k.mark()
	k.read()
	k.correct()
	var r api.Register
	r.Sheets = k.sheets()
	r.Reads = k.readings()
	r.Stations = k.moved(b)
	r.Conflicts = sortedNames(k.conflicts)
	return r
}

// A ledger is what notes of a set that stand amount to, all by the names of the notes.
type ledger struct {
	order     []api.Note // as they take effect
	notes     map[api.Name]api.Note
	places    map[api.Name]place      // of each sheet
	marksOn   map[api.Name][]api.Name // of each sheet: its marks that are no conflicts, in order
	marks     map[api.Name]api.Mark   // that are no conflicts, as they are known
	reads     map[api.Name]api.Read   // as they are known
	conflicts map[api.Name]bool
}

func ledgerOf(l []api.Note) *ledger {
	order := slices.Collect(standing(l))
	return &ledger{
		order:     order,
		notes:     byName(order),
		places:    map[api.Name]place{},
		marksOn:   map[api.Name][]api.Name{},
		marks:     map[api.Name]api.Mark{},
		reads:     map[api.Name]api.Read{},
		conflicts: map[api.Name]bool{},
	}
}

// of yields the notes of a kind that stand, in the order in which they take effect.
func (k *ledger) of(kind int) iter.Seq[api.Note] {
	return func(yield func(api.Note) bool) {
		for _, n := range k.order {
			if n.Kind == kind && !yield(n) {
				return
			}
		}
	}
}

func (k *ledger) conflict(n api.Note) { k.conflicts[nameOf(n)] = true }

// withdraw finds the withdrawals of a set that withdraw nothing.
func (k *ledger) withdraw(l []api.Note) {
	all := byName(l)
	for _, n := range l {
		if n.Kind != api.NoteWithdraw {
			continue
		}
		if ref, ok := all[n.Ref]; !ok || ref.Kind == api.NoteWithdraw {
			k.conflict(n)
		}
	}
}

func (k *ledger) file() {
	for n := range k.of(api.NoteSheet) {
		k.places[nameOf(n)] = place{n.Station, n.Week}
	}
	for n := range k.of(api.NoteFile) {
		if _, ok := k.places[n.Ref]; !ok {
			k.conflict(n)
			continue
		}
		k.places[n.Ref] = place{n.Station, n.Week}
	}
}

func (k *ledger) mark() {
	for n := range k.of(api.NoteMark) {
		if !k.hasColumn(n.Ref, n.Mark.Column) || len(k.marksOn[n.Ref]) >= api.MaxMarks {
			k.conflict(n)
			continue
		}
		k.marksOn[n.Ref] = append(k.marksOn[n.Ref], nameOf(n))
		k.marks[nameOf(n)] = n.Mark
	}
}

// hasColumn reports whether a name is that of a sheet that stands and has a column, which is that of a right mark.
func (k *ledger) hasColumn(sheet api.Name, column int) bool {
	n := k.notes[sheet]
	return n.Kind == api.NoteSheet && column < columnsOf(n.Sheet.Drum)
}

func (k *ledger) read() {
	for n := range k.of(api.NoteRead) {
		k.reads[nameOf(n)] = n.Read
	}
}

func (k *ledger) correct() {
	for n := range k.of(api.NoteCorrect) {
		_, isRead := k.reads[n.Ref]
		_, isMark := k.marks[n.Ref]
		switch {
		case correctsReading(n) && isRead:
			k.reads[n.Ref] = n.Read
		case !correctsReading(n) && isMark && k.hasColumn(k.notes[n.Ref].Ref, n.Mark.Column):
			k.marks[n.Ref] = n.Mark
		default:
			k.conflict(n)
		}
	}
}

// sheets returns the sheets with their marks, of each place only the first one.
func (k *ledger) sheets() []api.Filed {
	taken := map[place]bool{}
	filed := func(n api.Note) (api.Filed, bool) {
		name := nameOf(n)
		at := k.places[name]
		if taken[at] {
			return api.Filed{}, false
		}
		taken[at] = true
		f := api.Filed{Name: name, Station: at.station, Week: at.week, Sheet: copySheet(n.Sheet)}
		for _, m := range k.marksOn[name] {
			f.Marks = append(f.Marks, k.marks[m])
			f.Names = append(f.Names, m)
		}
		return f, true
	}
	var l []api.Filed
	for n := range k.of(api.NoteSheet) {
		f, ok := filed(n)
		if !ok {
			k.conflict(n)
			continue
		}
		l = append(l, f)
	}
	return l
}

func (k *ledger) readings() []api.Read {
	var l []api.Read
	for n := range k.of(api.NoteRead) {
		l = append(l, k.reads[nameOf(n)])
	}
	return l
}

// moved returns the stations of a base with the heights that were noted.
func (k *ledger) moved(b api.Base) []api.Station {
	l := copyEach(b.Stations, copyStation)
	for n := range k.of(api.NoteHeight) {
		// The station is there, as the note is well-formed.
		at, _ := stations.StationOf(l, n.Station)
		s, e := stations.Move(l[at], n.Height)
		if e != api.OK {
			k.conflict(n)
			continue
		}
		l[at] = s
	}
	return l
}
