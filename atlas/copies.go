package atlas

import (
	"slices"

	"aneroid/api"
)

// Results share no memory with arguments, nor with one another: the following functions copy the lists as well.

func copyEach[E any](l []E, copied func(E) E) []E {
	var all []E
	for _, x := range l {
		all = append(all, copied(x))
	}
	return all
}

func copyBase(b api.Base) api.Base {
	b.Stations = copyEach(b.Stations, func(s api.Station) api.Station {
		s.Heights = slices.Clone(s.Heights)
		return s
	})
	return b
}

func copyWeek(w api.Week) api.Week {
	w.Base = copyBase(w.Base)
	w.Sheets = copyEach(w.Sheets, copyFiled)
	w.Reads = slices.Clone(w.Reads)
	return w
}

func copyFiled(f api.Filed) api.Filed {
	s := &f.Sheet
	s.Trace, s.Blots = slices.Clone(s.Trace), slices.Clone(s.Blots)
	s.Drum.Rates, s.Drum.Stops = slices.Clone(s.Drum.Rates), slices.Clone(s.Drum.Stops)
	f.Marks, f.Names = slices.Clone(f.Marks), slices.Clone(f.Names)
	return f
}

func copyCourse(c api.Course) api.Course {
	c.Ticks, c.Shown, c.Levels = slices.Clone(c.Ticks), slices.Clone(c.Shown), slices.Clone(c.Levels)
	return c
}
