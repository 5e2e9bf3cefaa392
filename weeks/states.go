package weeks

import (
	"iter"

	"aneroid/api"
	"aneroid/clocks"
	"aneroid/pens"
)

// A state of a clock is the last column that has passed (-1: none), and how many ticks ago it did.
type state struct{ column, ago int }

// A clockwork is the states of a clock, in order. For each of them it has the indices of those that may be one tick behind it, and one tick ahead of it.
type clockwork struct {
	gaps          []api.Span
	states        []state
	indices       map[state]int
	behind, ahead [][]int
}

// gapsOf returns the gaps of all columns of a valid drum but the last one.
func gapsOf(d api.Drum) []api.Span {
	gaps := make([]api.Span, len(d.Rates))
	for c := range gaps {
		gaps[c], _ = clocks.Gap(d, c)
	}
	return gaps
}

// countStates returns how many states a clock has in a week of some ticks: one ahead of the first column, and two for the last one.
func countStates(gaps []api.Span, ticks int) int {
	count := 3
	for _, gap := range gaps {
		count += min(gap.Hi, ticks)
	}
	return count
}

func clockworkOf(gaps []api.Span, ticks int) clockwork {
	c := clockwork{gaps: gaps, indices: map[state]int{}}
	c.keep(state{column: -1})
	for column, gap := range gaps {
		for ago := range min(gap.Hi, ticks) {
			c.keep(state{column, ago})
		}
	}
	c.keep(state{len(gaps), 0})
	c.keep(state{len(gaps), 1})
	c.link()
	return c
}

// keep adds a state behind the others.
func (c *clockwork) keep(s state) {
	c.indices[s] = len(c.states)
	c.states = append(c.states, s)
}

// link finds for all states those behind and ahead of them.
func (c *clockwork) link() {
	c.behind = make([][]int, len(c.states))
	c.ahead = make([][]int, len(c.states))
	for i, s := range c.states {
		for next := range c.next(s) {
			k := c.indices[next]
			c.behind[i] = append(c.behind[i], k)
			c.ahead[k] = append(c.ahead[k], i)
		}
	}
}

// last returns the last column.
func (c *clockwork) last() int { return len(c.gaps) }

// next yields the states that may be one tick behind a state, in order.
func (c *clockwork) next(s state) iter.Seq[state] {
	return func(yield func(state) bool) {
		if s.column == c.last() {
			yield(state{s.column, 1})
			return
		}
		later := state{s.column, s.ago + 1}
		if s.column < 0 {
			later = s
		}
		if _, ok := c.indices[later]; ok && !yield(later) {
			return
		}
		if s.column < 0 || has(c.gaps[s.column], s.ago+1) {
			yield(state{s.column + 1, 0})
		}
	}
}

// changes has, for each two offsets of a pen, by which numbers what it shows may change from the one to the other one.
type changes [][]api.Span

// moves are the changes of a pen, and the same as they are seen from the other offset: onward from the later one, with what must be added to what was shown before; backward from the earlier one, with what must be added to what is shown behind.
type moves struct {
	changes
	onward, backward changes
}

func movesOf(p api.Pen) moves {
	width := 2*p.Band + 1
	all := make(changes, width)
	for from := range all {
		all[from] = make([]api.Span, width)
		for to := range all[from] {
			all[from][to] = nothing()
		}
		edges, _ := pens.Moves(p, from-p.Band)
		for _, e := range edges {
			all[from][e.To] = e.Change
		}
	}
	return all.seen()
}

// seen returns the moves with these changes.
func (all changes) seen() moves {
	m := moves{changes: all, onward: make(changes, len(all)), backward: make(changes, len(all))}
	for from, spans := range all {
		for to, s := range spans {
			m.onward[to] = append(m.onward[to], s)
			m.backward[from] = append(m.backward[from], opposite(s))
		}
	}
	return m
}

// by returns the moves by which the real level changes by a number within a span.
func (m moves) by(rise api.Span) moves {
	clipped := make(changes, len(m.changes))
	for from, spans := range m.changes {
		for to, s := range spans {
			s = common(s, sum(rise, single(from-to)))
			clipped[from] = append(clipped[from], s)
		}
	}
	return clipped.seen()
}
