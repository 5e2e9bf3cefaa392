package archive

import (
	"iter"
	"maps"
	"slices"

	"aneroid/api"
)

// Merge returns the notes of two sets.
func Merge(b api.Base, x, y []api.Note) ([]api.Note, api.Errno) {
	if e := check(b, x, y); e != api.OK {
		return nil, e
	}
	if _, forks := fork(x, y); forks {
		return nil, api.ErrFork
	}
	all := byName(y)
	maps.Copy(all, byName(x))
	if len(all) > api.MaxNotes {
		return nil, api.ErrLimit
	}
	var merged []api.Note
	for _, name := range sortedNames(all) {
		merged = append(merged, copyNote(all[name]))
	}
	return merged, api.OK
}

// Fork returns the first name of which two sets have different notes.
func Fork(b api.Base, x, y []api.Note) (api.Name, api.Errno) {
	if e := check(b, x, y); e != api.OK {
		return api.Name{}, e
	}
	name, forks := fork(x, y)
	if !forks {
		return api.Name{}, api.ErrNone
	}
	return name, api.OK
}

// fork returns the least name at which two sets fork, if they do.
func fork(x, y []api.Note) (api.Name, bool) {
	others := byName(y)
	for _, n := range x {
		if other, ok := others[nameOf(n)]; ok && !Same(n, other) {
			return nameOf(n), true
		}
	}
	return api.Name{}, false
}

// Stands returns the notes that stand.
func Stands(b api.Base, l []api.Note) ([]api.Name, api.Errno) {
	if e := check(b, l); e != api.OK {
		return nil, e
	}
	var names []api.Name
	for n := range standing(l) {
		names = append(names, nameOf(n))
	}
	return names, api.OK
}

// Chain returns the notes that changed another one.
func Chain(b api.Base, l []api.Note, n api.Name) ([]api.Name, api.Errno) {
	if e := check(b, l); e != api.OK {
		return nil, e
	}
	var kind int
	switch byName(l)[n].Kind {
	case api.NoteSheet:
		kind = api.NoteFile
	case api.NoteMark, api.NoteRead:
		kind = api.NoteCorrect
	default:
		return nil, api.ErrNone
	}
	var names []api.Name
	for change := range standing(l) {
		if change.Kind == kind && change.Ref == n {
			names = append(names, nameOf(change))
		}
	}
	return names, api.OK
}

// standing yields the notes of a set that stand, in the order in which they take effect.
func standing(l []api.Note) iter.Seq[api.Note] {
	return func(yield func(api.Note) bool) {
		withdrawn := withdrawnBy(l)
		for _, n := range slices.SortedFunc(slices.Values(l), compareEffect) {
			if n.Kind != api.NoteWithdraw && !withdrawn[nameOf(n)] && !yield(n) {
				return
			}
		}
	}
}

// withdrawnBy returns the names of which some note of a set is a withdrawal.
func withdrawnBy(l []api.Note) map[api.Name]bool {
	names := map[api.Name]bool{}
	for _, n := range l {
		if n.Kind == api.NoteWithdraw {
			names[n.Ref] = true
		}
	}
	return names
}

func byName(l []api.Note) map[api.Name]api.Note {
	notes := map[api.Name]api.Note{}
	for _, n := range l {
		notes[nameOf(n)] = n
	}
	return notes
}

// sortedNames returns the names that are keys, as the order of a map is none.
func sortedNames[V any](m map[api.Name]V) []api.Name {
	return slices.SortedFunc(maps.Keys(m), compareNames)
}
