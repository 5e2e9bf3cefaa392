package century

import "aneroid/api"

// Steps returns the fewest shifts that make a series steady.
func Steps(s api.Series, most int) (int, []int, api.Errno) {
	r, e := recordOf(s)
	if e != api.OK {
		return 0, nil, e
	}
	if !isMost(most) {
		return 0, nil, api.ErrArg
	}
	times := r.steps(most)
	return len(times), times, api.OK
}

// steps returns the times at which all parts but the first one begin.
func (r record) steps(most int) []int {
	var times []int
	first := 0
parts:
	for {
		floors := r.floors(most)
		for i := first; i < len(r.Values); i++ {
			if isNothing(floors(i)) {
				times = append(times, r.Values[i].Time)
				first = i
				continue parts
			}
		}
		return times
	}
}

// Monotone returns rising levels that agree.
func Monotone(s api.Series) ([]int, api.Errno) {
	r, e := recordOf(s)
	if e != api.OK {
		return nil, e
	}
	levels, ok := r.climb()
	if !ok {
		return nil, api.ErrNone
	}
	return levels, api.OK
}

// climb returns the least adjusted levels that do not decrease, or false if there are none.
//
// Each bound follows from some others: the level of a value from that of the one ahead and from what it is without shifts, and the sum of the shifts up to a value from the sums beside it and from how high its level must be. The bounds of two values narrow one another to and fro, if a level must be so high that shifts ahead of it cannot be as great as they might.
func (r record) climb() ([]int, bool) {
	levels, sums := make([]int, len(r.Values)), make([]int, len(r.Values))
	for i, v := range r.Values {
		levels[i], sums[i] = r.bounds(i).Lo, r.shifted(-1, v.Time).Hi
	}
	// A bound that is a consequence of others needs at most one round for each bound: if something narrows still after these, it never ends.
	for range 2*len(r.Values) + 1 {
		if !r.narrow(levels, sums) {
			return levels, true
		}
	}
	return nil, false
}

// narrow goes once through the least levels and the greatest sums of the shifts up to them, and narrows each by those beside it. It reports whether anything is narrower now.
func (r record) narrow(levels, sums []int) bool {
	narrower := false
	raise := func(i, level int) {
		if levels[i] < level {
			levels[i], narrower = level, true
		}
	}
	lower := func(i, shifts int) {
		if sums[i] > shifts {
			sums[i], narrower = shifts, true
		}
	}
	for i, v := range r.Values {
		if i > 0 {
			added := r.apart(i-1, i)
			raise(i, levels[i-1])
			lower(i, sums[i-1]+added.Hi)
			lower(i-1, sums[i]-added.Lo)
		}
		raise(i, v.Levels.Lo-sums[i])
		lower(i, v.Levels.Hi-levels[i])
	}
	return narrower
}

// Falls returns two times between which levels must have fallen.
func Falls(s api.Series) ([]int, api.Errno) {
	r, e := recordOf(s)
	if e != api.OK {
		return nil, e
	}
	for i, earlier := range r.Values {
		for k := i + 1; k < len(r.Values); k++ {
			if r.rise(i, k).Hi < 0 {
				return []int{earlier.Time, r.Values[k].Time}, api.OK
			}
		}
	}
	return nil, api.ErrNone
}
