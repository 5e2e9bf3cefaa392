package archive_test

import (
	"slices"

	"aneroid/api"
)

// The functions of this file are the words of the chapter, one by one, without maps.

func ahead(a, b api.Note) bool {
	x := []int{a.Day, a.Clock, a.Clerk, a.Num}
	y := []int{b.Day, b.Clock, b.Clerk, b.Num}
	return slices.Compare(x, y) < 0
}

func stands(l []api.Note, n api.Note) bool {
	for _, w := range l {
		if w.Kind == api.NoteWithdraw && w.Ref == nameOf(n) {
			return false
		}
	}
	return n.Kind >= 1 && n.Kind <= 6
}

// knownBy returns the notes of a set that were noted by a day and known by a clock.
func knownBy(l []api.Note, day, clock int) []api.Note {
	var known []api.Note
	for _, n := range l {
		if n.Day <= day && n.Clock <= clock {
			known = append(known, n)
		}
	}
	return known
}

// A model is a set with the notes that stand, in the order in which they take effect, and which of these are conflicts.
type model struct {
	base     api.Base
	all      []api.Note
	order    []api.Note
	conflict []bool
}

func modelOf(b api.Base, l []api.Note) *model {
	m := &model{base: b, all: l}
	for _, n := range l {
		if stands(l, n) {
			m.order = append(m.order, n)
		}
	}
	m.order = sorted(m.order, ahead)
	m.conflict = make([]bool, len(m.order))
	return m
}

// find returns the index of the note of a kind that stands and has a name, or -1.
func (m *model) find(kind int, name api.Name) int {
	return slices.IndexFunc(m.order, func(n api.Note) bool { return n.Kind == kind && nameOf(n) == name })
}

// last returns the index of the last one of the notes of a kind that stand, have a Ref and are no conflicts, or -1.
func (m *model) last(kind int, ref api.Name) int {
	found := -1
	for i, n := range m.order {
		if n.Kind == kind && n.Ref == ref && !m.conflict[i] {
			found = i
		}
	}
	return found
}

// column reports whether the drum of a sheet that stands has the column of a mark.
func (m *model) column(sheet api.Name, column int) bool {
	i := m.find(api.NoteSheet, sheet)
	return i >= 0 && column >= 0 && column <= len(m.order[i].Sheet.Drum.Rates)
}

func (m *model) register() api.Register {
	for i, n := range m.order {
		if n.Kind == api.NoteFile {
			m.conflict[i] = m.find(api.NoteSheet, n.Ref) < 0
		}
		if n.Kind == api.NoteMark {
			m.conflict[i] = !m.column(n.Ref, n.Mark.Column) || len(m.marksOf(n.Ref, i)) >= 64
		}
	}
	for i, n := range m.order {
		if n.Kind == api.NoteCorrect && n.Read.Station != 0 {
			m.conflict[i] = m.find(api.NoteRead, n.Ref) < 0
		}
		if n.Kind == api.NoteCorrect && n.Read.Station == 0 {
			of := m.find(api.NoteMark, n.Ref)
			m.conflict[i] = of < 0 || m.conflict[of] || !m.column(m.order[of].Ref, n.Mark.Column)
		}
	}
	var r api.Register
	r.Sheets = m.sheets()
	r.Reads = m.reads()
	r.Stations = m.stations()
	r.Conflicts = m.conflicts()
	return r
}

// marksOf returns the indices less than end of the marks on a sheet that are no conflicts.
func (m *model) marksOf(sheet api.Name, end int) []int {
	var l []int
	for i, n := range m.order[:end] {
		if n.Kind == api.NoteMark && n.Ref == sheet && !m.conflict[i] {
			l = append(l, i)
		}
	}
	return l
}

func (m *model) sheets() []api.Filed {
	var l []api.Filed
	for i, n := range m.order {
		if n.Kind != api.NoteSheet {
			continue
		}
		f := api.Filed{Name: nameOf(n), Station: n.Station, Week: n.Week, Sheet: n.Sheet}
		if k := m.last(api.NoteFile, f.Name); k >= 0 {
			f.Station, f.Week = m.order[k].Station, m.order[k].Week
		}
		for _, k := range m.marksOf(f.Name, len(m.order)) {
			known := m.order[k].Mark
			if c := m.last(api.NoteCorrect, nameOf(m.order[k])); c >= 0 {
				known = m.order[c].Mark
			}
			f.Marks = append(f.Marks, known)
			f.Names = append(f.Names, nameOf(m.order[k]))
		}
		m.conflict[i] = slices.ContainsFunc(l, func(x api.Filed) bool { return x.Station == f.Station && x.Week == f.Week })
		if !m.conflict[i] {
			l = append(l, f)
		}
	}
	return l
}

func (m *model) reads() []api.Read {
	var l []api.Read
	for _, n := range m.order {
		if n.Kind != api.NoteRead {
			continue
		}
		known := n.Read
		if c := m.last(api.NoteCorrect, nameOf(n)); c >= 0 {
			known = m.order[c].Read
		}
		l = append(l, known)
	}
	return l
}

// stations takes it from the chapter of stations when a height can be put in: there are at most 16, and none of its week. (Notes are well-formed.)
func (m *model) stations() []api.Station {
	var l []api.Station
	for _, s := range m.base.Stations {
		s.Heights = slices.Clone(s.Heights)
		for i, n := range m.order {
			if n.Kind != api.NoteHeight || n.Station != s.ID {
				continue
			}
			m.conflict[i] = len(s.Heights) == 16 || slices.ContainsFunc(s.Heights, func(h api.Height) bool { return h.Week == n.Height.Week })
			if !m.conflict[i] {
				s.Heights = sorted(append(s.Heights, n.Height), func(a, b api.Height) bool { return a.Week < b.Week })
			}
		}
		l = append(l, s)
	}
	return l
}

func (m *model) conflicts() []api.Name {
	var l []api.Name
	for i, n := range m.order {
		if m.conflict[i] {
			l = append(l, nameOf(n))
		}
	}
	for _, w := range m.all {
		if w.Kind == api.NoteWithdraw && !slices.ContainsFunc(m.all, func(n api.Note) bool { return n.Kind != api.NoteWithdraw && nameOf(n) == w.Ref }) {
			l = append(l, nameOf(w))
		}
	}
	return sorted(l, lessName)
}
