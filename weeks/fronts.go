package weeks

import (
	"slices"

	"aneroid/api"
)

// fronts returns the changes of the level from a tick to the next one that are a front.
func fronts(rise int) api.Span {
	if rise > 0 {
		return api.Span{Lo: rise, Hi: api.MaxLevel}
	}
	return api.Span{Lo: -api.MaxLevel, Hi: rise}
}

// calms returns the changes that are none.
func calms(rise int) api.Span {
	if rise > 0 {
		return api.Span{Lo: -api.MaxLevel, Hi: rise - 1}
	}
	return api.Span{Lo: rise + 1, Hi: api.MaxLevel}
}

func isRise(n int) bool { return n != 0 && between(n, -api.MaxFront, api.MaxFront) }

// chance returns the chance of something that is so in some of the courses of the region; these stand for all of them.
func chance[C any](courses []C, isSo func(c C) bool) int {
	count := 0
	for _, c := range courses {
		if isSo(c) {
			count++
		}
	}
	switch count {
	case 0:
		return api.FrontNever
	case len(courses):
		return api.FrontCertain
	}
	return api.FrontMay
}

// frontIn returns the chance of a front, if the least and the greatest change of the level are known: all that is a front lies on one side.
func frontIn(rise int, change api.Span) int {
	return chance([]int{change.Lo, change.Hi}, func(n int) bool { return has(fronts(rise), n) })
}

// rises returns for each tick but the last one the least and the greatest change of the level behind it in all courses; of courses there are some.
func (q inquiry) rises() []api.Span {
	none := api.Span{Lo: api.MaxLevel + 1, Hi: -api.MaxLevel - 1}
	found := slices.Repeat([]api.Span{none}, q.end())
	for zero := range q.zeros() {
		stages, ok := q.places(zero, q.end())
		if !ok {
			continue
		}
		for tick, s := range found {
			here := q.risesBetween(stages[tick], stages[tick+1], q.moves[tick])
			found[tick] = api.Span{Lo: min(s.Lo, here.Lo), Hi: max(s.Hi, here.Hi)}
		}
	}
	return found
}

// risesBetween returns the least and the greatest change of the level from a stage to the next one by some moves.
func (q inquiry) risesBetween(from, to stage, m moves) api.Span {
	found := api.Span{Lo: api.MaxLevel + 1, Hi: -api.MaxLevel - 1}
	for node, set := range from {
		if len(set) == 0 {
			continue
		}
		for _, link := range q.behind[node/q.width] {
			for i, change := range m.changes[node%q.width] {
				next := link*q.width + i
				rise, ok := differences(set, to[next], change)
				if !ok {
					continue
				}
				rise = sum(rise, single(q.offset(next)-q.offset(node)))
				found = api.Span{Lo: min(found.Lo, rise.Lo), Hi: max(found.Hi, rise.Hi)}
			}
		}
	}
	return found
}

// differences returns the least and the greatest number within change by which a number of a set is greater than one of another set, or false if there is none.
func differences(from, to []api.Span, change api.Span) (api.Span, bool) {
	found := nothing()
	ok := false
	begin, end := 0, 0
	for _, s := range from {
		// What can be reached from s lies in the spans from begin to ahead of end.
		reached := sum(s, change)
		for begin < len(to) && to[begin].Hi < reached.Lo {
			begin++
		}
		for end < len(to) && to[end].Lo <= reached.Hi {
			end++
		}
		if isNothing(change) || begin >= end {
			continue
		}
		least := max(change.Lo, to[begin].Lo-s.Hi)
		greatest := min(change.Hi, to[end-1].Hi-s.Lo)
		if !ok {
			found, ok = api.Span{Lo: least, Hi: greatest}, true
		}
		found = api.Span{Lo: min(found.Lo, least), Hi: max(found.Hi, greatest)}
	}
	return found, ok
}

// Front returns the chance of a front.
func Front(w api.Week, sheet, tick, rise int) (int, api.Errno) {
	right := between(tick, 0, w.Base.Ticks-1) && isRise(rise)
	r, e := openRegion(w, right, sheet)
	if e != api.OK {
		return 0, e
	}
	return frontIn(rise, r.among(sheet).rises()[tick]), api.OK
}

// Fronts returns the chances of fronts at all ticks.
func Fronts(w api.Week, sheet, rise int) ([]int, api.Errno) {
	r, e := openRegion(w, isRise(rise), sheet)
	if e != api.OK {
		return nil, e
	}
	var chances []int
	for _, change := range r.among(sheet).rises() {
		chances = append(chances, frontIn(rise, change))
	}
	return chances, api.OK
}

// Surely returns the chance of a front within some ticks.
func Surely(w api.Week, sheet, from, to, rise int) (int, api.Errno) {
	right := between(to, 0, w.Base.Ticks) && between(from, 0, to-1) && isRise(rise)
	r, e := openRegion(w, right, sheet)
	if e != api.OK {
		return 0, e
	}
	q := r.among(sheet)
	calm := q.moving(api.Span{Lo: from, Hi: to - 1}, q.usual.by(calms(rise)))
	isFront := func(change api.Span) bool { return frontIn(rise, change) != api.FrontNever }
	// Courses that have a front within the ticks, and such that have none, as far as there are any.
	var courses []bool
	if slices.ContainsFunc(q.rises()[from:to], isFront) {
		courses = append(courses, true)
	}
	if calm.isWhole() {
		courses = append(courses, false)
	}
	return chance(courses, func(has bool) bool { return has }), api.OK
}

// termsOfFronts returns for each tick but the last one the levels at the term of all courses with a front there.
func (q inquiry) termsOfFronts(rise int) [][]api.Span {
	piles := make([]pile, q.end())
	front := q.usual.by(fronts(rise))
	for zero := range q.zeros() {
		stages, ok := q.places(zero, q.end())
		if !ok {
			continue
		}
		for tick := range piles {
			var s stage
			if tick < q.term {
				s = q.onward(stages[tick], front, stages[tick+1])
				s = q.carried(s, tick+1, stages)
			} else {
				s = q.backward(stages[tick+1], front, stages[tick])
				s = q.carried(s, tick, stages)
			}
			q.put(s, zero, &piles[tick])
		}
	}
	return setsOf(piles)
}

// carried returns what is left at the term of a stage at a tick, through stages that have the places of all courses.
func (q inquiry) carried(s stage, tick int, stages []stage) stage {
	for tick != q.term && !s.isEmpty() {
		// Mostly all places are reached again a few ticks away, and then all of those at the term are.
		if s.equals(stages[tick]) {
			return stages[q.term]
		}
		if tick < q.term {
			tick++
			s = q.onward(s, q.moves[tick-1], stages[tick])
		} else {
			tick--
			s = q.backward(s, q.moves[tick], stages[tick])
		}
	}
	return s
}

// Passages returns at which ticks a front may have passed two stations.
func Passages(w api.Week, a, b, rise int) ([][]int, api.Errno) {
	r, e := openRegion(w, isRise(rise) && a != b, a, b)
	if e != api.OK {
		return nil, e
	}
	others := r.among(b).termsOfFronts(rise)
	var pairs [][]int
	var before, left []api.Span
	for t, terms := range r.among(a).termsOfFronts(rise) {
		// Mostly many ticks have the same levels, one behind the other.
		if !slices.Equal(terms, before) {
			before, left = terms, r.with(a, terms).possible(b)
		}
		for u, other := range others {
			if hasCommon(left, other) {
				pairs = append(pairs, []int{t, u})
			}
		}
	}
	return pairs, api.OK
}
