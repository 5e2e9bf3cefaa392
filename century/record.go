package century

import (
	"iter"

	"aneroid/api"
)

// A record is a valid series, or the differences of two of them.
type record struct{ api.Series }

// recordOf returns the record of a series, or the error of Check.
func recordOf(s api.Series) (record, api.Errno) {
	if e, _ := Check(s); e != api.OK {
		return record{}, e
	}
	return record{s}, api.OK
}

// within yields the values with a time in a span, with their indices.
func (r record) within(times api.Span) iter.Seq2[int, api.Value] {
	return func(yield func(int, api.Value) bool) {
		for i, v := range r.Values {
			if between(v.Time, times.Lo, times.Hi) && !yield(i, v) {
				return
			}
		}
	}
}

// find returns the index of the value with a time, or false if there is none.
func (r record) find(time int) (int, bool) {
	for i := range r.within(api.Span{Lo: time, Hi: time}) {
		return i, true
	}
	return 0, false
}

// agrees reports whether levels and shifts agree with a record.
func (r record) agrees(levels, shifts []int) bool {
	if len(levels) != len(r.Values) || len(shifts) != len(r.Shifts) {
		return false
	}
	for i, v := range r.Values {
		if !between(levels[i], v.Levels.Lo, v.Levels.Hi) {
			return false
		}
	}
	for i, x := range r.Shifts {
		if !between(shifts[i], x.Levels.Lo, x.Levels.Hi) {
			return false
		}
	}
	return true
}

// adjusted returns the adjusted levels of levels and shifts that agree.
func (r record) adjusted(levels, shifts []int) []int {
	all := make([]int, len(levels))
	for i, v := range r.Values {
		all[i] = levels[i]
		for k, x := range r.Shifts {
			if x.Time <= v.Time {
				all[i] -= shifts[k]
			}
		}
	}
	return all
}

// shifted returns the bounds of the sum of all shifts behind a time, up to another one.
func (r record) shifted(from, to int) api.Span {
	var all api.Span
	for _, x := range r.Shifts {
		if from < x.Time && x.Time <= to {
			all = sum(all, x.Levels)
		}
	}
	return all
}

// bounds returns the bounds of an adjusted level.
func (r record) bounds(i int) api.Span {
	v := r.Values[i]
	return difference(v.Levels, r.shifted(-1, v.Time))
}

// apart returns the bounds of what the shifts add from a value to another one, which may be ahead of it.
func (r record) apart(from, to int) api.Span {
	if from > to {
		return opposite(r.apart(to, from))
	}
	return r.shifted(r.Values[from].Time, r.Values[to].Time)
}

// rise returns the bounds of an adjusted level less another one. They are narrower than what the bounds of both tell, since a shift that counts for both does not matter.
func (r record) rise(from, to int) api.Span {
	return difference(difference(r.Values[to].Levels, r.Values[from].Levels), r.apart(from, to))
}
