package weeks

import (
	"cmp"
	"slices"

	"aneroid/api"
)

func between(n, least, greatest int) bool { return least <= n && n <= greatest }

func has(s api.Span, n int) bool { return between(n, s.Lo, s.Hi) }

func single(n int) api.Span { return api.Span{Lo: n, Hi: n} }

// nothing returns a span without numbers: as of any such span, its Lo is greater than its Hi.
func nothing() api.Span { return api.Span{Lo: 1} }

func isNothing(s api.Span) bool { return s.Lo > s.Hi }

// common returns what two spans have in common.
func common(a, b api.Span) api.Span {
	return api.Span{Lo: max(a.Lo, b.Lo), Hi: min(a.Hi, b.Hi)}
}

// sum returns the sums of a number of one span and one of another.
func sum(a, b api.Span) api.Span { return api.Span{Lo: a.Lo + b.Lo, Hi: a.Hi + b.Hi} }

func opposite(s api.Span) api.Span { return api.Span{Lo: -s.Hi, Hi: -s.Lo} }

// meet appends to a list the set of the numbers of both sets.
func meet(list, a, b []api.Span) []api.Span {
	for i, k := 0, 0; i < len(a) && k < len(b); {
		if s := common(a[i], b[k]); !isNothing(s) {
			list = append(list, s)
		}
		if a[i].Hi < b[k].Hi {
			i++
		} else {
			k++
		}
	}
	return list
}

// hasCommon reports whether two sets have a common number.
func hasCommon(a, b []api.Span) bool { return len(meet(nil, a, b)) > 0 }

// moved returns the numbers of a set, each greater by a number, as far as they are levels.
func moved(set []api.Span, by int) []api.Span {
	var all []api.Span
	for _, s := range set {
		s = common(sum(s, single(by)), api.Span{Hi: api.MaxLevel})
		if !isNothing(s) {
			all = append(all, s)
		}
	}
	return all
}

// few is how many spans a pile has at least before they are merged.
const few = 64

// A pile gathers spans, in any order, of which a set is made.
type pile struct {
	spans []api.Span
	room  int
}

// clear takes all spans from a pile, but leaves it the memory.
func (p *pile) clear() { p.spans = p.spans[:0] }

// add adds a span. Mostly it touches the last one: so a pile stays low.
func (p *pile) add(s api.Span) {
	if n := len(p.spans); n > 0 {
		last := &p.spans[n-1]
		if s.Lo <= last.Hi+1 && last.Lo <= s.Hi+1 {
			*last = api.Span{Lo: min(s.Lo, last.Lo), Hi: max(s.Hi, last.Hi)}
			return
		}
	}
	if len(p.spans) >= max(few, p.room) {
		p.room = 2 * len(p.set())
	}
	p.spans = append(p.spans, s)
}

// set returns the set of all numbers of a pile. It is good until the pile changes.
func (p *pile) set() []api.Span {
	if len(p.spans) > 1 {
		slices.SortFunc(p.spans, func(a, b api.Span) int { return cmp.Compare(a.Lo, b.Lo) })
		p.spans = merged(p.spans)
	}
	return p.spans
}

// merged returns the set of spans in increasing order, in the memory of these.
func merged(l []api.Span) []api.Span {
	set := l[:0]
	for _, s := range l {
		if n := len(set); n > 0 && s.Lo <= set[n-1].Hi+1 {
			set[n-1].Hi = max(set[n-1].Hi, s.Hi)
		} else {
			set = append(set, s)
		}
	}
	return set
}

// setsOf returns the sets of piles, which it spends.
func setsOf(piles []pile) [][]api.Span {
	sets := make([][]api.Span, len(piles))
	for i := range piles {
		sets[i] = piles[i].set()
	}
	return sets
}
