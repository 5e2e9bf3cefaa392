package clocks

import (
	"cmp"
	"iter"
	"slices"

	"aneroid/api"
)

// read returns the ticks of each column in all readings. It returns the errors that come ahead of those of a rule; valid says whether the other arguments of a function are.
func read(d api.Drum, m []api.Mark, valid bool) ([]api.Span, api.Errno) {
	if e := check(d, m); e != api.OK {
		return nil, e
	}
	if !valid {
		return nil, api.ErrArg
	}
	ticks, ok := readings(gapsOf(d), m...)
	if !ok {
		return nil, api.ErrTime
	}
	return ticks, api.OK
}

// readWith returns the ticks of each column in all readings in which a column has a tick: this is as good as a further mark.
func readWith(d api.Drum, m []api.Mark, column, tick int) ([]api.Span, api.Errno) {
	if _, e := read(d, m, isColumn(d, column) && isTick(tick)); e != api.OK {
		return nil, e
	}
	further := api.Mark{Column: column, Ticks: api.Span{Lo: tick, Hi: tick}}
	ticks, ok := readings(gapsOf(d), slices.Concat(m, []api.Mark{further})...)
	if !ok {
		return nil, api.ErrNone
	}
	return ticks, api.OK
}

// gapsOf returns the gaps of all columns of a valid drum but the last one.
func gapsOf(d api.Drum) []api.Span {
	gaps := slices.Clone(d.Rates)
	for _, stop := range d.Stops {
		gaps[stop.Column] = sum(gaps[stop.Column], stop.Ticks)
	}
	return gaps
}

// isReading reports whether ticks are a reading. Each is bounded before they are subtracted, so that no difference wraps around.
func isReading(gaps []api.Span, m []api.Mark, ticks []int) bool {
	if len(ticks) != len(gaps)+1 {
		return false
	}
	for _, tick := range ticks {
		if !isTick(tick) {
			return false
		}
	}
	for c, gap := range gaps {
		if !has(gap, ticks[c+1]-ticks[c]) {
			return false
		}
	}
	for _, mark := range m {
		if !has(mark.Ticks, ticks[mark.Column]) {
			return false
		}
	}
	return true
}

// readings returns the ticks of each column in all readings with some marks, or false if there is no reading.
func readings(gaps []api.Span, m ...api.Mark) ([]api.Span, bool) {
	ticks := slices.Repeat([]api.Span{{Lo: 0, Hi: api.MaxTicks}}, len(gaps)+1)
	for _, mark := range m {
		narrow(&ticks[mark.Column], mark.Ticks)
	}
	if !settle(gaps, ticks) {
		return nil, false
	}
	return ticks, true
}

// agree reports whether there is a reading with some marks.
func agree(gaps []api.Span, m ...api.Mark) bool {
	_, ok := readings(gaps, m...)
	return ok
}

// settle narrows the ticks of columns to those of readings, and reports whether there are any. Since each column but the ends has two neighbours only, each tick that is left is one of a reading.
func settle(gaps, ticks []api.Span) bool {
narrowing:
	for {
		changed := false
		for _, steps := range []iter.Seq[step]{onward(gaps), backward(gaps)} {
			for s := range steps {
				if narrow(&ticks[s.to], sum(ticks[s.from], s.later)) {
					changed = true
				}
				if ticks[s.to].Lo > ticks[s.to].Hi {
					break narrowing
				}
			}
		}
		if !changed {
			return true
		}
	}
	return false
}

// A step leads from a column to a neighbour of it, whose tick is later by a number within a span.
type step struct {
	from, to int
	later    api.Span
}

// onward yields the steps to the columns behind, from the first column on.
func onward(gaps []api.Span) iter.Seq[step] {
	return func(yield func(step) bool) {
		for c, gap := range gaps {
			if !yield(step{from: c, to: c + 1, later: gap}) {
				return
			}
		}
	}
}

// backward yields the steps to the columns ahead, from the last column on.
func backward(gaps []api.Span) iter.Seq[step] {
	return func(yield func(step) bool) {
		for c, gap := range slices.Backward(gaps) {
			if !yield(step{from: c + 1, to: c, later: opposite(gap)}) {
				return
			}
		}
	}
}

// narrow takes all numbers from a span that another one does not have, and reports whether there were any.
func narrow(s *api.Span, to api.Span) bool {
	raised := move(&s.Lo, to.Lo, -1)
	lowered := move(&s.Hi, to.Hi, 1)
	return raised || lowered
}

// move moves the end of a span to a bound, if it lies outside: below it, if outside is -1, or above it, if outside is 1. It reports whether it did.
func move[E cmp.Ordered](end *E, bound E, outside int) bool {
	if cmp.Compare(*end, bound) != outside {
		return false
	}
	*end = bound
	return true
}

// The moments whose differences bound one another.
const (
	begin = iota // the tick 0
	here         // a column at the pen
	there        // another one
	moments
)

// differences has, for each two moments, the greatest number by which the latter one may be later.
type differences [moments][moments]int

// apart returns by how many ticks the column b may be later than the column a, from the ticks of all readings.
func apart(gaps, ticks []api.Span, a, b int) api.Span {
	passed := added(gaps, a, b)
	d := differences{
		begin: {begin: 0, here: ticks[a].Hi, there: ticks[b].Hi},
		here:  {begin: -ticks[a].Lo, here: 0, there: passed.Hi},
		there: {begin: -ticks[b].Lo, here: -passed.Lo, there: 0},
	}
	d.settle()
	return api.Span{Lo: -d[there][here], Hi: d[here][there]}
}

// settle lowers each difference to the sum of two by way of a third moment, where this is less.
func (d *differences) settle() {
	for way := range d {
		for from := range d {
			for to := range d {
				d[from][to] = min(d[from][to], d[from][way]+d[way][to])
			}
		}
	}
}

// added returns the gaps from the column a to the column b, added.
func added(gaps []api.Span, a, b int) api.Span {
	if a > b {
		return opposite(added(gaps, b, a))
	}
	var s api.Span
	for _, gap := range gaps[a:b] {
		s = sum(s, gap)
	}
	return s
}

// lastPassed returns the last column that has passed at a tick, or -1.
func lastPassed(ticks []int, tick int) int {
	last := -1
	for c, t := range ticks {
		if t <= tick {
			last = c
		}
	}
	return last
}

func firsts(ticks []api.Span) []int {
	var l []int
	for _, s := range ticks {
		l = append(l, s.Lo)
	}
	return l
}

func lasts(ticks []api.Span) []int {
	var l []int
	for _, s := range ticks {
		l = append(l, s.Hi)
	}
	return l
}

func has(s api.Span, n int) bool { return s.Lo <= n && n <= s.Hi }

// sum returns the sums of a number of one span and one of another.
func sum(a, b api.Span) api.Span { return api.Span{Lo: a.Lo + b.Lo, Hi: a.Hi + b.Hi} }

func opposite(s api.Span) api.Span { return api.Span{Lo: -s.Hi, Hi: -s.Lo} }
