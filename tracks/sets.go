package tracks

import (
	"cmp"
	"iter"
	"slices"

	"aneroid/api"
)

// few is how many spans are gathered at least before they are merged, and many how many are merged faster by counting than by sorting.
const (
	few  = 64
	many = 4096
)

// CheckSet returns OK if a set is valid.
func CheckSet(l []api.Span) api.Errno {
	if len(l) > api.MaxSpans || !isSet(l) {
		return api.ErrArg
	}
	return api.OK
}

// isSet reports whether a list is a set of any number of spans.
func isSet(l []api.Span) bool {
	least := -bound
	for _, s := range l {
		if !between(s.Lo, least, s.Hi) || s.Hi > bound {
			return false
		}
		least = s.Hi + 2
	}
	return true
}

// Union returns the numbers of one of two sets.
func Union(a, b []api.Span) ([]api.Span, api.Errno) {
	if CheckSet(a) != api.OK || CheckSet(b) != api.OK {
		return nil, api.ErrArg
	}
	return united([][]api.Span{a, b}), api.OK
}

// Meet returns the numbers of both sets.
func Meet(a, b []api.Span) ([]api.Span, api.Errno) {
	if CheckSet(a) != api.OK || CheckSet(b) != api.OK {
		return nil, api.ErrArg
	}
	return meet(a, b), api.OK
}

// united returns the set of all numbers of sets.
func united(sets [][]api.Span) []api.Span {
	return grown(func(yield func(api.Span) bool) {
		for _, set := range sets {
			for _, s := range set {
				if !yield(s) {
					return
				}
			}
		}
	})
}

// meet returns the set of the numbers of both sets.
func meet(a, b []api.Span) []api.Span {
	var both []api.Span
	for i, k := 0, 0; i < len(a) && k < len(b); {
		s := common(a[i], b[k])
		if s.Lo <= s.Hi {
			both = append(both, s)
		}
		if a[i].Hi < b[k].Hi {
			i++
		} else {
			k++
		}
	}
	return both
}

// common returns what two spans have in common: if that is nothing, Lo is greater than Hi.
func common(a, b api.Span) api.Span {
	return api.Span{Lo: max(a.Lo, b.Lo), Hi: min(a.Hi, b.Hi)}
}

// has reports whether a number is in a set.
func has(set []api.Span, n int) bool {
	return slices.ContainsFunc(set, func(s api.Span) bool { return between(n, s.Lo, s.Hi) })
}

// isWithin reports whether all numbers of a set are in another one.
func isWithin(set, other []api.Span) bool { return slices.Equal(meet(set, other), set) }

// grown returns the set of all numbers of spans, which may be in any order, with ends from -bound to bound.
func grown(spans iter.Seq[api.Span]) []api.Span {
	var l []api.Span
	room := few
	for s := range spans {
		if n := len(l); n > 0 && l[n-1].Lo <= s.Lo && s.Lo <= l[n-1].Hi+1 {
			l[n-1].Hi = max(l[n-1].Hi, s.Hi)
			continue
		}
		// What is gathered is merged now and then: there can be far more spans than any set has.
		if len(l) >= room {
			l = merged(l)
			room = 2*len(l) + few
		}
		l = append(l, s)
	}
	return merged(l)
}

// merged returns the set of all numbers of a list of spans, which it spends.
func merged(l []api.Span) []api.Span {
	if len(l) >= many {
		return counted(l)
	}
	slices.SortFunc(l, func(a, b api.Span) int { return cmp.Compare(a.Lo, b.Lo) })
	set := l[:0]
	for _, s := range l {
		if n := len(set); n > 0 && s.Lo <= set[n-1].Hi+1 {
			set[n-1].Hi = max(set[n-1].Hi, s.Hi)
		} else {
			set = append(set, s)
		}
	}
	return set
}

// counted returns the same as merged: it counts at each number how many spans begin there, less those that have just ended.
func counted(l []api.Span) []api.Span {
	begin := make([]int, 2*bound+2)
	for _, s := range l {
		begin[s.Lo+bound]++
		begin[s.Hi+1+bound]--
	}
	set := l[:0]
	open := 0
	for i, count := range begin {
		if open == 0 && count > 0 {
			set = append(set, api.Span{Lo: i - bound})
		}
		if open > 0 && open+count == 0 {
			set[len(set)-1].Hi = i - 1 - bound
		}
		open += count
	}
	return set
}
