package weeks

import (
	"iter"
	"slices"

	"aneroid/api"
)

// An inquiry asks a sheet for its courses, with what is noted of it.
type inquiry struct {
	*chart
	term   int
	marked []api.Span   // for each column the ticks in all its marks
	due    []api.Span   // for each column its ticks as far as the gaps allow them as well
	within [][]api.Span // for each tick the levels that may have been
	moves  []moves      // for each tick but the last one how the pen may move behind it
}

// A filter tells which claims are taken into account.
type filter func(c api.Claim) bool

// all is the filter that all claims pass.
func all(api.Claim) bool { return true }

// inquire returns the inquiry of a sheet that is laid out, filed under a station, with those of its marks and of the readings of the station that are noted.
func (o *opened) inquire(sheet, station int, noted filter) inquiry {
	c := &o.charts[sheet]
	q := inquiry{
		chart:  c,
		term:   o.Base.Term,
		marked: slices.Repeat([]api.Span{{Hi: o.Base.Ticks}}, c.last()+1),
		within: make([][]api.Span, o.Base.Ticks+1),
		moves:  slices.Repeat([]moves{c.usual}, o.Base.Ticks),
	}
	for i, m := range c.Marks {
		if noted(markOf(sheet, i)) {
			q.marked[m.Column] = common(q.marked[m.Column], m.Ticks)
		}
	}
	for tick := range q.within {
		q.within[tick] = []api.Span{{Hi: api.MaxLevel}}
	}
	for i, r := range o.Reads {
		if r.Station == station && noted(readOf(i)) {
			q.within[r.Tick] = meet(nil, q.within[r.Tick], []api.Span{r.Levels})
		}
	}
	q.due = settled(q.marked, c.gaps)
	return q
}

// settled returns the ticks that marks leave to columns, narrowed by the gaps between these: first from the first column on, then from the last one on. Nothing is left to do then, since each column has neighbours on two sides only.
func settled(marked, gaps []api.Span) []api.Span {
	due := slices.Clone(marked)
	for c, gap := range gaps {
		due[c+1] = common(due[c+1], sum(due[c], gap))
	}
	for c, gap := range slices.Backward(gaps) {
		due[c] = common(due[c], sum(due[c+1], opposite(gap)))
	}
	return due
}

// own returns the inquiry of a sheet as it is filed, with all that is noted.
func (o *opened) own(sheet int) inquiry {
	return o.inquire(sheet, o.charts[sheet].Station, all)
}

// at returns the inquiry for the courses that have one of some levels at a tick.
func (q inquiry) at(tick int, levels []api.Span) inquiry {
	q.within = slices.Clone(q.within)
	q.within[tick] = meet(nil, q.within[tick], levels)
	return q
}

// moving returns the inquiry for the courses that move in a way behind each of some ticks.
func (q inquiry) moving(ticks api.Span, m moves) inquiry {
	q.moves = slices.Clone(q.moves)
	for tick := ticks.Lo; tick <= ticks.Hi; tick++ {
		q.moves[tick] = m
	}
	return q
}

// end returns the last tick.
func (q inquiry) end() int { return len(q.moves) }

// zeros yields the zeros of the pen.
func (q inquiry) zeros() iter.Seq[int] {
	return func(yield func(int) bool) {
		for zero := q.Sheet.Pen.Zero.Lo; zero <= q.Sheet.Pen.Zero.Hi; zero++ {
			if !yield(zero) {
				return
			}
		}
	}
}

// A stage is a set of shown levels for each node at a tick.
type stage [][]api.Span

func (s stage) isEmpty() bool {
	return !slices.ContainsFunc(s, func(set []api.Span) bool { return len(set) > 0 })
}

func (s stage) equals(t stage) bool { return slices.EqualFunc(s, t, slices.Equal) }

// allowed returns what a track with a zero allows at a tick, as far as a state is open there.
func (q inquiry) allowed(tick, zero int, isOpen func(s state, tick int) bool) stage {
	free := make(stage, q.width)
	for i := range free {
		free[i] = moved(q.within[tick], -zero-q.offset(i))
	}
	allowed := make(stage, len(q.states)*q.width)
	for i, s := range q.states {
		if !isOpen(s, tick) {
			continue
		}
		room := allowed[i*q.width:][:q.width]
		copy(room, free)
		if q.isInked(s) {
			for k := range room {
				room[k] = meet(nil, free[k], q.ink[s.column])
			}
		}
	}
	return allowed
}

// isInked reports whether a column with ink is at the pen in a state.
func (q inquiry) isInked(s state) bool {
	return s.column >= 0 && s.ago == 0 && len(q.ink[s.column]) > 0
}

// isMarked reports whether the track allows anything in a state at a tick.
func (q inquiry) isMarked(s state, tick int) bool {
	begins := s.column < 0 || s == state{}
	if tick == 0 && !begins || tick == q.end() && s.column < q.last() {
		return false
	}
	return s.column < 0 || s.ago > 0 || has(q.marked[s.column], tick)
}

// isDue reports whether a course can be in a state at a tick, as far as its clock tells. This leaves out nodes of the track that no course has, of which there may be many.
func (q inquiry) isDue(s state, tick int) bool {
	switch {
	case s.column < 0:
		return tick < q.due[0].Hi
	case s.column < q.last():
		return has(q.due[s.column], tick-s.ago) && tick < q.due[s.column+1].Hi
	case s.ago == 0:
		return has(q.due[s.column], tick)
	}
	return tick > q.due[s.column].Lo
}

// step returns the values that are reached at a tick from the nodes of the one beside it, as far as they are within what may be there. The links are, for each state, those from which it is reached, and by what the values change.
func (c *chart) step(from stage, links [][]int, by changes, within stage) stage {
	to := make(stage, len(within))
	var reached pile
	var array []api.Span
	for node, left := range within {
		if len(left) == 0 {
			continue
		}
		reached.clear()
		for _, link := range links[node/c.width] {
			for i, change := range by[node%c.width] {
				if isNothing(change) {
					continue
				}
				for _, s := range from[link*c.width+i] {
					reached.add(sum(s, change))
				}
			}
		}
		// One array for all sets, as there are many: each has a part of its own.
		first := len(array)
		array = meet(array, reached.set(), left)
		to[node] = array[first:len(array):len(array)]
	}
	return to
}

// onward returns what is reached behind a tick from a stage by some moves.
func (q inquiry) onward(from stage, m moves, within stage) stage {
	return q.step(from, q.ahead, m.onward, within)
}

// backward returns from where a stage is reached ahead of it by some moves.
func (q inquiry) backward(to stage, m moves, within stage) stage {
	return q.step(to, q.behind, m.backward, within)
}

// ends returns for each tick the values with which courses with a zero can go on to the last tick, or false if there is no course.
func (q inquiry) ends(zero int) ([]stage, bool) {
	stages := make([]stage, q.end()+1)
	stages[q.end()] = q.allowed(q.end(), zero, q.isDue)
	for tick := q.end() - 1; tick >= 0; tick-- {
		stages[tick] = q.backward(stages[tick+1], q.moves[tick], q.allowed(tick, zero, q.isDue))
		if stages[tick].isEmpty() {
			return nil, false
		}
	}
	return stages, true
}

// places returns the values of all courses with a zero for each tick up to one, or false if there is no course.
func (q inquiry) places(zero, upTo int) ([]stage, bool) {
	stages, ok := q.ends(zero)
	if !ok {
		return nil, false
	}
	for tick := range upTo {
		stages[tick+1] = q.onward(stages[tick], q.moves[tick], stages[tick+1])
	}
	return stages[:upTo+1], true
}

// isWhole reports whether there is a course.
func (q inquiry) isWhole() bool {
	for zero := range q.zeros() {
		if _, ok := q.ends(zero); ok {
			return true
		}
	}
	return false
}

// put puts the levels of a stage onto a pile.
func (q inquiry) put(s stage, zero int, p *pile) {
	for node, set := range s {
		for _, shown := range set {
			p.add(sum(shown, single(zero+q.offset(node))))
		}
	}
}

// levels returns for each tick the levels of all courses.
func (q inquiry) levels() [][]api.Span {
	piles := make([]pile, q.end()+1)
	for zero := range q.zeros() {
		stages, _ := q.places(zero, q.end())
		for tick, s := range stages {
			q.put(s, zero, &piles[tick])
		}
	}
	return setsOf(piles)
}

// terms returns the levels of all courses at the term.
func (q inquiry) terms() []api.Span {
	var p pile
	for zero := range q.zeros() {
		if stages, ok := q.places(zero, q.term); ok {
			q.put(stages[q.term], zero, &p)
		}
	}
	return p.set()
}

// columns returns for each column its ticks in all courses.
func (q inquiry) columns() [][]api.Span {
	piles := make([]pile, q.last()+1)
	for zero := range q.zeros() {
		stages, _ := q.places(zero, q.end())
		for tick, s := range stages {
			for c := range piles {
				first := q.indices[state{column: c}] * q.width
				if !s[first:][:q.width].isEmpty() {
					piles[c].add(single(tick))
				}
			}
		}
	}
	return setsOf(piles)
}
