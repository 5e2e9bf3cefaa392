package century

import (
	"sort"

	"aneroid/api"
)

// Break returns the times at which one of two series must have shifted.
func Break(s, t api.Series, least int) ([]int, api.Errno) {
	d, e := differencesOf(s, t)
	if e != api.OK {
		return nil, e
	}
	if !between(least, 1, maxLevel) {
		return nil, api.ErrArg
	}
	var times []int
	for i, v := range d.Values {
		if i == 0 {
			continue
		}
		if rise := d.rise(i-1, i); rise.Lo >= least || rise.Hi <= -least {
			times = append(times, v.Time)
		}
	}
	return times, api.OK
}

// Adjust returns the shifts that bring two series together.
func Adjust(s, t api.Series, time, most int) (api.Span, api.Errno) {
	d, e := differencesOf(s, t)
	if e != api.OK {
		return api.Span{}, e
	}
	if !isTime(time) || !isMost(most) {
		return api.Span{}, api.ErrArg
	}
	split := sort.Search(len(d.Values), func(i int) bool { return d.Values[i].Time >= time })
	jump, ok := d.jump(split, most)
	if !ok {
		return api.Span{}, api.ErrNone
	}
	return jump, api.OK
}

// differencesOf returns a record whose adjusted levels are the differences of two series, or the errors of Check. The shifts of the second one count the other way round there; their order does not matter.
func differencesOf(s, t api.Series) (record, api.Errno) {
	first, e := recordOf(s)
	if e != api.OK {
		return record{}, e
	}
	second, e := recordOf(t)
	if e != api.OK {
		return record{}, e
	}
	var d record
	for _, v := range first.Values {
		if i, ok := second.find(v.Time); ok {
			v.Levels = difference(v.Levels, second.Values[i].Levels)
			d.Values = append(d.Values, v)
		}
	}
	d.Shifts = append(d.Shifts, first.Shifts...)
	for _, x := range second.Shifts {
		d.Shifts = append(d.Shifts, api.Shift{Time: x.Time, Levels: opposite(x.Levels)})
	}
	return d, api.OK
}

// jump returns the bounds of a further shift, between a value and the one ahead of it, with which all values can be even by a number; or false if there are no values on one side, or no such shift.
func (r record) jump(split, most int) (api.Span, bool) {
	if split == 0 || split == len(r.Values) {
		return api.Span{}, false
	}
	// Each side is walked towards the split, so that the floors at its end are those that the whole side leaves.
	onward, backward := r.floors(most), r.floors(most)
	var ahead, behind api.Span
	for i := range split {
		if ahead = onward(i); isNothing(ahead) {
			return api.Span{}, false
		}
	}
	for i := len(r.Values) - 1; i >= split; i-- {
		if behind = backward(i); isNothing(behind) {
			return api.Span{}, false
		}
	}
	return difference(difference(behind, ahead), r.apart(split-1, split)), true
}

// floors returns a function to walk along the values in either direction, which tells of each the floors that are left by those it has come through, or nothing, where the walk must end. A floor is the least level that a value may have, if all of them are to be even by a number: the adjusted levels have one floor, and shifts move it.
func (r record) floors(most int) func(i int) api.Span {
	last := -1
	var left api.Span
	return func(i int) api.Span {
		levels := r.Values[i].Levels
		floors := api.Span{Lo: levels.Lo - most, Hi: levels.Hi}
		if last >= 0 {
			floors = common(floors, sum(left, r.apart(last, i)))
		}
		last, left = i, floors
		return floors
	}
}
