package archive

import (
	"slices"

	"aneroid/api"
)

// Results share no memory with arguments: the following functions copy the lists as well.

func copyEach[E any](l []E, copied func(E) E) []E {
	var all []E
	for _, x := range l {
		all = append(all, copied(x))
	}
	return all
}

func copyNote(n api.Note) api.Note {
	n.Sheet = copySheet(n.Sheet)
	return n
}

func copySheet(s api.Sheet) api.Sheet {
	s.Trace = slices.Clone(s.Trace)
	s.Blots = slices.Clone(s.Blots)
	s.Drum.Rates = slices.Clone(s.Drum.Rates)
	s.Drum.Stops = slices.Clone(s.Drum.Stops)
	return s
}

func copyStation(s api.Station) api.Station {
	s.Heights = slices.Clone(s.Heights)
	return s
}

func copyFiled(f api.Filed) api.Filed {
	f.Sheet = copySheet(f.Sheet)
	f.Marks = slices.Clone(f.Marks)
	f.Names = slices.Clone(f.Names)
	return f
}
