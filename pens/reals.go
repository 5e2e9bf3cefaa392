package pens

import (
	"slices"

	"aneroid/api"
)

// Reals returns the real levels that agree with what was shown.
func Reals(p api.Pen, shown []int) ([]api.Span, api.Errno) {
	if e := checkList(p, shown); e != api.OK {
		return nil, e
	}
	reals, ok := offsets(p, shown)
	if !ok {
		return nil, api.ErrStuck
	}
	for i, level := range shown {
		reals[i].Lo += level
		reals[i].Hi += level
	}
	return reals, api.OK
}

// Real returns real levels that agree with what was shown.
func Real(p api.Pen, shown []int) ([]int, api.Errno) {
	return choose(p, shown, func(s api.Span, level int) int { return middle(s.Lo, level, s.Hi) })
}

// Lowest returns the lowest real levels.
func Lowest(p api.Pen, shown []int) ([]int, api.Errno) {
	return choose(p, shown, func(s api.Span, _ int) int { return s.Lo })
}

// Highest returns the highest real levels.
func Highest(p api.Pen, shown []int) ([]int, api.Errno) {
	return choose(p, shown, func(s api.Span, _ int) int { return s.Hi })
}

// choose returns for each tick one of the real levels that agree with what was shown.
func choose(p api.Pen, shown []int, choice func(s api.Span, level int) int) ([]int, api.Errno) {
	reals, e := Reals(p, shown)
	if e != api.OK {
		return nil, e
	}
	chosen := make([]int, len(shown))
	for i, s := range reals {
		chosen[i] = choice(s, shown[i])
	}
	return chosen, api.OK
}

// offsets returns for each tick the offsets of all real levels that may be shown as a list, or false if there are none.
func offsets(p api.Pen, shown []int) ([]api.Span, bool) {
	l := make([]api.Span, len(shown))
	for i, level := range shown {
		l[i] = pulled(p, level-shown[max(0, i-1)])
	}
	// From either end the real level changes by Rate at most: by the change of what is shown, and that of the offset.
	narrow(l, neighbours[api.Span]{left: func(from, to int) api.Span {
		change := shown[to] - shown[from]
		return api.Span{
			Lo: max(l[to].Lo, l[from].Lo-change-p.Rate),
			Hi: min(l[to].Hi, l[from].Hi-change+p.Rate),
		}
	}})
	isEmpty := func(s api.Span) bool { return s.Lo > s.Hi }
	return l, !slices.ContainsFunc(l, isEmpty)
}

// pulled returns the offsets of a pen that has just moved: those of the end of its band that pulled it. If it stands still, it may have any.
func pulled(p api.Pen, change int) api.Span {
	switch {
	case change > 0:
		return api.Span{Lo: p.Band, Hi: p.Band}
	case change < 0:
		return api.Span{Lo: -p.Band, Hi: -p.Band}
	}
	return api.Span{Lo: -p.Band, Hi: p.Band}
}

// neighbours bound one another: left returns what the value at an index leaves of the one at an index beside it.
type neighbours[T any] struct {
	left func(from, to int) T
}

// narrow narrows values from the first one on, and then from the last one on. Nothing is left to do then, since each has neighbours on two sides only.
func narrow[T any](values []T, n neighbours[T]) {
	last := len(values) - 1
	for i := range last {
		values[i+1] = n.left(i, i+1)
	}
	for i := last; i > 0; i-- {
		values[i-1] = n.left(i, i-1)
	}
}

// Stuck returns the runs in which a pen did not move.
func Stuck(p api.Pen, shown []int) ([]api.Span, api.Errno) {
	if e := checkList(p, shown); e != api.OK {
		return nil, e
	}
	return runs(shown), api.OK
}

// runs returns the first and the last index of each longest run of at least two equal neighbours.
func runs(l []int) []api.Span {
	var found []api.Span
	last := len(l) - 1
	first := 0
search:
	for first < last {
		run := api.Span{Lo: first, Hi: first}
		for l[run.Hi+1] == l[first] {
			run.Hi++
			if run.Hi == last {
				found = append(found, run)
				break search
			}
		}
		if run.Lo < run.Hi {
			found = append(found, run)
		}
		first = run.Hi + 1
	}
	return found
}
