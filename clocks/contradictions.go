package clocks

import (
	"iter"
	"slices"

	"aneroid/api"
)

// Agree reports whether two marks can both be true.
func Agree(d api.Drum, a, b api.Mark) (bool, api.Errno) {
	return Feasible(d, []api.Mark{a, b})
}

// Contradiction returns the first smallest set of marks that contradict the drum.
func Contradiction(d api.Drum, m []api.Mark) ([]int, api.Errno) {
	if e := check(d, m); e != api.OK {
		return nil, e
	}
	for set := range contradictions(gapsOf(d), m) {
		return set, api.OK
	}
	return nil, api.ErrNone
}

// Pairs returns all minimal contradictions of marks.
func Pairs(d api.Drum, m []api.Mark) ([][]int, api.Errno) {
	if e := check(d, m); e != api.OK {
		return nil, e
	}
	pairs := slices.Collect(contradictions(gapsOf(d), m))
	if len(pairs) == 0 {
		return nil, api.ErrNone
	}
	return pairs, api.OK
}

// Drops returns all smallest sets of marks without which the others agree.
func Drops(d api.Drum, m []api.Mark) ([][]int, api.Errno) {
	if e := check(d, m); e != api.OK {
		return nil, e
	}
	if len(m) > api.MaxSmall {
		return nil, api.ErrLimit
	}
	gaps := gapsOf(d)
	if !agree(gaps) {
		return nil, api.ErrTime
	}
	pairs := slices.Collect(contradictions(gaps, m))
	// All marks together have an element of each contradiction: so the sizes end there at the latest.
	for size := 0; ; size++ {
		if drops := breaking(pairs, len(m), size); len(drops) > 0 {
			return drops, api.OK
		}
	}
}

// breaking returns the sets of a size that have an element of each contradiction: those without which the other marks agree.
func breaking(pairs [][]int, count, size int) [][]int {
	var found [][]int
	for set := range sets(count, size) {
		remains := func(pair []int) bool { return !meet(set, pair) }
		if !slices.ContainsFunc(pairs, remains) {
			found = append(found, set)
		}
	}
	return found
}

// meet reports whether two sets have a common element.
func meet(a, b []int) bool {
	return slices.ContainsFunc(a, func(n int) bool { return slices.Contains(b, n) })
}

// contradictions yields the minimal contradictions in order. If each two of some marks agree, all of them do: so none has more than two marks.
func contradictions(gaps []api.Span, m []api.Mark) iter.Seq[[]int] {
	return func(yield func([]int) bool) {
		if !agree(gaps) {
			yield(nil)
			return
		}
		alone := make([]bool, len(m))
		for i, mark := range m {
			alone[i] = agree(gaps, mark)
			if !alone[i] && !yield([]int{i}) {
				return
			}
		}
		for pair := range sets(len(m), 2) {
			i, j := pair[0], pair[1]
			if alone[i] && alone[j] && !agree(gaps, m[i], m[j]) && !yield(pair) {
				return
			}
		}
	}
}

// sets yields the sets of a size of the numbers less than count, in order.
func sets(count, size int) iter.Seq[[]int] {
	return func(yield func([]int) bool) {
		set := make([]int, size)
		var fill func(at, least int) bool
		fill = func(at, least int) bool {
			if at == size {
				return yield(slices.Clone(set))
			}
			for n := least; n <= count-size+at; n++ {
				set[at] = n
				if !fill(at+1, n+1) {
					return false
				}
			}
			return true
		}
		fill(0, 0)
	}
}
