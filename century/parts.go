package century

import (
	"cmp"
	"slices"

	"aneroid/api"
)

// Narrow returns a series of which more is known.
func Narrow(s api.Series, time int, levels api.Span) (api.Series, api.Errno) {
	r, e := recordOf(s)
	if e != api.OK {
		return api.Series{}, e
	}
	at, ok := r.find(time)
	if !ok {
		return api.Series{}, api.ErrNone
	}
	left := common(r.Values[at].Levels, levels)
	if isNothing(left) {
		return api.Series{}, api.ErrNone
	}
	values := slices.Clone(r.Values)
	values[at].Levels = left
	return api.Series{Values: values, Shifts: slices.Clone(r.Shifts)}, api.OK
}

// Join returns what two series tell together.
func Join(s, t api.Series) (api.Series, api.Errno) {
	first, e := recordOf(s)
	if e != api.OK {
		return api.Series{}, e
	}
	second, e := recordOf(t)
	if e != api.OK {
		return api.Series{}, e
	}
	if !slices.Equal(first.Shifts, second.Shifts) {
		return api.Series{}, api.ErrShift
	}
	values, e := joined(first.Values, second.Values)
	if e != api.OK {
		return api.Series{}, e
	}
	return api.Series{Values: values, Shifts: slices.Clone(first.Shifts)}, api.OK
}

// joined returns the values of two lists by time. ErrNone and ErrLimit are those of Join.
func joined(a, b []api.Value) ([]api.Value, api.Errno) {
	all := slices.Clone(a)
	for _, v := range b {
		at, found := slices.BinarySearchFunc(all, v.Time, func(x api.Value, time int) int { return cmp.Compare(x.Time, time) })
		if !found {
			all = slices.Insert(all, at, v)
			continue
		}
		all[at].Levels = common(all[at].Levels, v.Levels)
		if isNothing(all[at].Levels) {
			return nil, api.ErrNone
		}
	}
	if len(all) > api.MaxYears {
		return nil, api.ErrLimit
	}
	return all, api.OK
}

// Cut returns a part of a series.
func Cut(s api.Series, times api.Span) (api.Series, api.Errno) {
	r, e := recordOf(s)
	if e != api.OK {
		return api.Series{}, e
	}
	if !isTimes(times) {
		return api.Series{}, api.ErrArg
	}
	var left api.Series
	for _, v := range r.within(times) {
		left.Values = append(left.Values, v)
	}
	for _, x := range r.Shifts {
		if between(x.Time, times.Lo, times.Hi) {
			left.Shifts = append(left.Shifts, x)
		}
	}
	return left, api.OK
}
