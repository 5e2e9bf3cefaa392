package pens

import "aneroid/api"

// A law is a pen as it moves: only as far as it must.
type law api.Pen

// isRight reports whether a pen may show at a real level what a moment says.
func (p law) isRight(m api.Moment) bool { return between(m.Real-m.Shown, -p.Band, p.Band) }

// next returns the moment with a real level that follows a moment, or false if none does.
func (p law) next(m api.Moment, real int) (api.Moment, bool) {
	if !p.isRight(m) || !between(real-m.Real, -p.Rate, p.Rate) {
		return api.Moment{}, false
	}
	return api.Moment{Shown: middle(real-p.Band, m.Shown, real+p.Band), Real: real}, true
}

// Step returns what a pen shows next.
func Step(p api.Pen, m api.Moment, real int) (api.Moment, api.Errno) {
	if e := check(p, m.Shown, m.Real, real); e != api.OK {
		return api.Moment{}, e
	}
	following, ok := law(p).next(m, real)
	if !ok {
		return api.Moment{}, api.ErrStuck
	}
	return following, api.OK
}

// Follow returns what a pen shows of real levels.
func Follow(p api.Pen, first int, real []int) ([]int, api.Errno) {
	if e := check(p, first); e != api.OK {
		return nil, e
	}
	if !isList(real) {
		return nil, api.ErrArg
	}
	shown, ok := follow(law(p).next, first, real)
	if !ok {
		return nil, api.ErrStuck
	}
	return shown, api.OK
}

// follow returns what is shown of real levels, if first is shown of the first one, or false if next does not lead through all of them.
func follow(next func(m api.Moment, real int) (api.Moment, bool), first int, real []int) ([]int, bool) {
	var shown []int
	m := api.Moment{Shown: first, Real: real[0]}
	// The first moment, if it is right, follows itself.
	for _, level := range real {
		following, ok := next(m, level)
		if !ok {
			return nil, false
		}
		shown = append(shown, following.Shown)
		m = following
	}
	return shown, true
}

// Keeps returns OK if moments can follow one another.
func Keeps(p api.Pen, l []api.Moment) api.Errno {
	if e := Check(p); e != api.OK {
		return e
	}
	if !areMoments(l) {
		return api.ErrArg
	}
	next := law(p).next
	before := l[0]
	for _, m := range l {
		if following, ok := next(before, m.Real); !ok || following != m {
			return api.ErrStuck
		}
		before = m
	}
	return api.OK
}

func areMoments(l []api.Moment) bool {
	for _, m := range l {
		if !areLevels([]int{m.Shown, m.Real}) {
			return false
		}
	}
	return between(len(l), 1, maxList)
}

// Moves returns how the offset of a pen may change.
func Moves(p api.Pen, offset int) ([]api.Edge, api.Errno) {
	if e := Check(p); e != api.OK {
		return nil, e
	}
	if !between(offset, -p.Band, p.Band) {
		return nil, api.ErrArg
	}
	var moves []api.Edge
	for to := max(-p.Band, offset-p.Rate); to <= min(p.Band, offset+p.Rate); to++ {
		moves = append(moves, api.Edge{To: to + p.Band, Change: changes(p, offset, to)})
	}
	return moves, api.OK
}

// changes returns by how much a pen may move between two offsets: it stands still, unless it is pulled by an end of its band.
func changes(p api.Pen, from, to int) api.Span {
	var change api.Span
	if to == p.Band {
		change.Hi = p.Rate - p.Band + from
	}
	if to == -p.Band {
		change.Lo = -p.Rate + p.Band + from
	}
	return change
}

// Forgets returns from when on it does not matter what a pen showed at first.
func Forgets(p api.Pen, real []int) (int, api.Errno) {
	if e := checkList(p, real); e != api.OK {
		return 0, e
	}
	// What begins between the least and the greatest first number stays between what these become.
	next := law(p).next
	least, ok := follow(next, real[0]-p.Band, real)
	if !ok {
		return 0, api.ErrStuck
	}
	greatest, ok := follow(next, real[0]+p.Band, real)
	if !ok {
		return 0, api.ErrStuck
	}
	for i := range real {
		if least[i] == greatest[i] {
			return i, api.OK
		}
	}
	return 0, api.ErrNone
}
