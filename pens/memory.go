package pens

import (
	"iter"
	"slices"

	"aneroid/api"
)

// Turns returns where levels turn.
func Turns(l []int) ([]int, api.Errno) {
	if !isList(l) {
		return nil, api.ErrArg
	}
	return slices.Collect(turns(l)), api.OK
}

// turns yields the indices at which a list turns, in order.
func turns(l []int) iter.Seq[int] {
	return func(yield func(int) bool) {
		// The numbers from the last change on are equal: so the next change shows whether the list turned there.
		last := 0
		for i := 1; i < len(l); i++ {
			if l[i] == l[i-1] {
				continue
			}
			if last > 0 && (l[last] > l[last-1]) == (l[i] < l[i-1]) && !yield(last) {
				return
			}
			last = i
		}
	}
}

// Memory returns the turns that still matter.
func Memory(p api.Pen, real []int) ([]int, api.Errno) {
	if e := checkList(p, real); e != api.OK {
		return nil, e
	}
	last := len(real) - 1
	remembered := []int{last}
	behind := api.Span{Lo: real[last], Hi: real[last]}
	for i := last - 1; i >= 0 && behind.Hi-behind.Lo < 2*p.Band; i-- {
		if !between(real[i], behind.Lo, behind.Hi) {
			remembered = append(remembered, i)
		}
		behind = api.Span{Lo: min(behind.Lo, real[i]), Hi: max(behind.Hi, real[i])}
	}
	slices.Reverse(remembered)
	return remembered, api.OK
}
